/- Whether a word is an operation's: the document's Is, operation by operation. -/
import Derived.Test.YtbnacdhhacafkaaDoorRows
import Derived.Test.YtbnacdhhacafkaaDoorSz
import Derived.Test.YtbnacdhhacafkaaDoorTd
import Derived.Test.YtbnacdhhacafkaaDoorOc
import Derived.Test.YtbnacdhhacafkaaDoorFc
import Derived.Test.YtbnacdhhacafkaaDoorSh
import Derived.Test.YtbnacdhhacafkaaDoorFm
import Derived.Test.YtbnacdhhacafkaaDoorIsd
import Derived.WalkKit
import Derived.WalkLawsBesides
import Derived.Deep.QuietTactic
import Derived.BigQuiet
import Derived.WalkSmall
import Derived.WalkSpells
import Derived.Lib.Hide
import Derived.Below
namespace Go.Proofs.YtbnacdhhacafkaaDoor
open Go.RowKit

set_option maxRecDepth 100000 in
theorem is_29 : IsAt 29 := by
  intro v w v0 v1
  have HS := fun w1 h => sort_bw w w1 h 29 (by decide) (by decide)
  have HO : ∀ w1, BW w w1 → _ := fun w1 h => (oc_29 w1).mono fun _ _ ⟨he, hb⟩ => And.intro he (BW.on h hb)
  have HF : ∀ w1, BW w w1 → _ := fun w1 h => (fc_29 w1).mono fun _ _ ⟨he, hb⟩ => And.intro he (BW.on h hb)
  have HT : ∀ w1, BW w w1 → _ := fun w1 h => (tu_29 w1).mono fun _ _ ⟨he, hb⟩ => And.intro he (BW.on h hb)
  have HH : ∀ w1, BW w w1 → _ := fun w1 h => (sh_29 w1).mono fun _ _ ⟨he, hb⟩ => And.intro he (BW.on h hb)
  have HV := True.intro
  have HB : BW w w := Below.refl _ _
  rw [show srt 29 = 6 by decide] at HS
  rw [show ocV 29 = 19 by decide] at HO
  rw [show f3V 29 = 5 by decide] at HF
  rw [show turB 29 = false by decide] at HT
  rw [show shV 29 = 6 by decide] at HH

  have HI : Hid (Isw v 29 ↔ v % 128 = 19 ∧ v / 4096 % 8 = 5 ∧ v / 33554432 / 2 = 0) := by
    show _ ↔ _
    unfold Isw
    rw [show ocV 29 = 19 by decide, show f3V 29 = 5 by decide, show agV 29 = 0 by decide, show kdV 29 = 3 by decide]
    simp
    try omega
  by_cases h0 : v % 128 = 19
  · have b0 : (v % 128 != 19) = false := by simp [h0]
    have H0 := Lib.hid h0
    clear h0
    by_cases h1 : v / 4096 % 8 = 5
    · have b1 : (v / 4096 % 8 != 5) = false := by simp [h1]
      have H1 := Lib.hid h1
      clear h1
      go_enter Tryd.func28, Tryd.ntmps28
      go_wp2_with (first
        | (go_at_call 19; refine (HS _ (by assumption)).mono ?_; rintro e w' ⟨rfl, hb⟩)
        | (go_at_call 9; refine (HO _ (by assumption)).mono ?_; rintro e w' ⟨rfl, hb⟩)
        | (go_at_call 11; refine (HF _ (by assumption)).mono ?_; rintro e w' ⟨rfl, hb⟩)
        | (go_at_call 49; refine (HT _ (by assumption)).mono ?_; rintro e w' ⟨rfl, hb⟩)
        | (go_at_call 31; refine (HH _ (by assumption)).mono ?_; rintro e w' ⟨rfl, hb⟩))
      go_ret
      refine ⟨ret_bool (isw_of ?_), by assumption⟩
      rw [HI.out]
      have h0 := H0.out
      have h1 := H1.out
      simp
      try omega
    · have b1 : (v / 4096 % 8 != 5) = true := by simp [h1]
      have H1 := Lib.hid h1
      clear h1
      go_enter Tryd.func28, Tryd.ntmps28
      go_wp2_with (first
        | (go_at_call 19; refine (HS _ (by assumption)).mono ?_; rintro e w' ⟨rfl, hb⟩)
        | (go_at_call 9; refine (HO _ (by assumption)).mono ?_; rintro e w' ⟨rfl, hb⟩)
        | (go_at_call 11; refine (HF _ (by assumption)).mono ?_; rintro e w' ⟨rfl, hb⟩)
        | (go_at_call 49; refine (HT _ (by assumption)).mono ?_; rintro e w' ⟨rfl, hb⟩)
        | (go_at_call 31; refine (HH _ (by assumption)).mono ?_; rintro e w' ⟨rfl, hb⟩))
      go_ret
      refine ⟨ret_bool (isw_of ?_), by assumption⟩
      rw [HI.out]
      have h0 := H0.out
      have h1 := H1.out
      simp
      try omega
  · have b0 : (v % 128 != 19) = true := by simp [h0]
    have H0 := Lib.hid h0
    clear h0
    go_enter Tryd.func28, Tryd.ntmps28
    go_wp2_with (first
      | (go_at_call 19; refine (HS _ (by assumption)).mono ?_; rintro e w' ⟨rfl, hb⟩)
      | (go_at_call 9; refine (HO _ (by assumption)).mono ?_; rintro e w' ⟨rfl, hb⟩)
      | (go_at_call 11; refine (HF _ (by assumption)).mono ?_; rintro e w' ⟨rfl, hb⟩)
      | (go_at_call 49; refine (HT _ (by assumption)).mono ?_; rintro e w' ⟨rfl, hb⟩)
      | (go_at_call 31; refine (HH _ (by assumption)).mono ?_; rintro e w' ⟨rfl, hb⟩))
    go_ret
    refine ⟨ret_bool (isw_of ?_), by assumption⟩
    rw [HI.out]
    have h0 := H0.out
    simp
    try omega
set_option maxRecDepth 100000 in
theorem is_30 : IsAt 30 := by
  intro v w v0 v1
  have HS := fun w1 h => sort_bw w w1 h 30 (by decide) (by decide)
  have HO : ∀ w1, BW w w1 → _ := fun w1 h => (oc_30 w1).mono fun _ _ ⟨he, hb⟩ => And.intro he (BW.on h hb)
  have HF : ∀ w1, BW w w1 → _ := fun w1 h => (fc_30 w1).mono fun _ _ ⟨he, hb⟩ => And.intro he (BW.on h hb)
  have HT : ∀ w1, BW w w1 → _ := fun w1 h => (tu_30 w1).mono fun _ _ ⟨he, hb⟩ => And.intro he (BW.on h hb)
  have HH : ∀ w1, BW w w1 → _ := fun w1 h => (sh_30 w1).mono fun _ _ ⟨he, hb⟩ => And.intro he (BW.on h hb)
  have HV := True.intro
  have HB : BW w w := Below.refl _ _
  rw [show srt 30 = 6 by decide] at HS
  rw [show ocV 30 = 19 by decide] at HO
  rw [show f3V 30 = 5 by decide] at HF
  rw [show turB 30 = true by decide] at HT
  rw [show shV 30 = 6 by decide] at HH

  have HI : Hid (Isw v 30 ↔ v % 128 = 19 ∧ v / 4096 % 8 = 5 ∧ v / 33554432 / 2 = 16) := by
    show _ ↔ _
    unfold Isw
    rw [show ocV 30 = 19 by decide, show f3V 30 = 5 by decide, show agV 30 = 16 by decide, show kdV 30 = 3 by decide]
    simp
    try omega
  by_cases h0 : v % 128 = 19
  · have b0 : (v % 128 != 19) = false := by simp [h0]
    have H0 := Lib.hid h0
    clear h0
    by_cases h1 : v / 4096 % 8 = 5
    · have b1 : (v / 4096 % 8 != 5) = false := by simp [h1]
      have H1 := Lib.hid h1
      clear h1
      go_enter Tryd.func28, Tryd.ntmps28
      go_wp2_with (first
        | (go_at_call 19; refine (HS _ (by assumption)).mono ?_; rintro e w' ⟨rfl, hb⟩)
        | (go_at_call 9; refine (HO _ (by assumption)).mono ?_; rintro e w' ⟨rfl, hb⟩)
        | (go_at_call 11; refine (HF _ (by assumption)).mono ?_; rintro e w' ⟨rfl, hb⟩)
        | (go_at_call 49; refine (HT _ (by assumption)).mono ?_; rintro e w' ⟨rfl, hb⟩)
        | (go_at_call 31; refine (HH _ (by assumption)).mono ?_; rintro e w' ⟨rfl, hb⟩))
      go_ret
      refine ⟨ret_bool (isw_of ?_), by assumption⟩
      rw [HI.out]
      have h0 := H0.out
      have h1 := H1.out
      simp
      try omega
    · have b1 : (v / 4096 % 8 != 5) = true := by simp [h1]
      have H1 := Lib.hid h1
      clear h1
      go_enter Tryd.func28, Tryd.ntmps28
      go_wp2_with (first
        | (go_at_call 19; refine (HS _ (by assumption)).mono ?_; rintro e w' ⟨rfl, hb⟩)
        | (go_at_call 9; refine (HO _ (by assumption)).mono ?_; rintro e w' ⟨rfl, hb⟩)
        | (go_at_call 11; refine (HF _ (by assumption)).mono ?_; rintro e w' ⟨rfl, hb⟩)
        | (go_at_call 49; refine (HT _ (by assumption)).mono ?_; rintro e w' ⟨rfl, hb⟩)
        | (go_at_call 31; refine (HH _ (by assumption)).mono ?_; rintro e w' ⟨rfl, hb⟩))
      go_ret
      refine ⟨ret_bool (isw_of ?_), by assumption⟩
      rw [HI.out]
      have h0 := H0.out
      have h1 := H1.out
      simp
      try omega
  · have b0 : (v % 128 != 19) = true := by simp [h0]
    have H0 := Lib.hid h0
    clear h0
    go_enter Tryd.func28, Tryd.ntmps28
    go_wp2_with (first
      | (go_at_call 19; refine (HS _ (by assumption)).mono ?_; rintro e w' ⟨rfl, hb⟩)
      | (go_at_call 9; refine (HO _ (by assumption)).mono ?_; rintro e w' ⟨rfl, hb⟩)
      | (go_at_call 11; refine (HF _ (by assumption)).mono ?_; rintro e w' ⟨rfl, hb⟩)
      | (go_at_call 49; refine (HT _ (by assumption)).mono ?_; rintro e w' ⟨rfl, hb⟩)
      | (go_at_call 31; refine (HH _ (by assumption)).mono ?_; rintro e w' ⟨rfl, hb⟩))
    go_ret
    refine ⟨ret_bool (isw_of ?_), by assumption⟩
    rw [HI.out]
    have h0 := H0.out
    simp
    try omega
set_option maxRecDepth 100000 in
theorem is_31 : IsAt 31 := by
  intro v w v0 v1
  have HS := fun w1 h => sort_bw w w1 h 31 (by decide) (by decide)
  have HO : ∀ w1, BW w w1 → _ := fun w1 h => (oc_31 w1).mono fun _ _ ⟨he, hb⟩ => And.intro he (BW.on h hb)
  have HF : ∀ w1, BW w w1 → _ := fun w1 h => (fc_31 w1).mono fun _ _ ⟨he, hb⟩ => And.intro he (BW.on h hb)
  have HT : ∀ w1, BW w w1 → _ := fun w1 h => (tu_31 w1).mono fun _ _ ⟨he, hb⟩ => And.intro he (BW.on h hb)
  have HH : ∀ w1, BW w w1 → _ := fun w1 h => (sh_31 w1).mono fun _ _ ⟨he, hb⟩ => And.intro he (BW.on h hb)
  have HV := True.intro
  have HB : BW w w := Below.refl _ _
  rw [show srt 31 = 6 by decide] at HS
  rw [show ocV 31 = 27 by decide] at HO
  rw [show f3V 31 = 0 by decide] at HF
  rw [show turB 31 = false by decide] at HT
  rw [show shV 31 = 0 by decide] at HH

  have HI : Hid (Isw v 31 ↔ v % 128 = 27 ∧ v / 4096 % 8 = 0) := by
    show _ ↔ _
    unfold Isw
    rw [show ocV 31 = 27 by decide, show f3V 31 = 0 by decide, show agV 31 = 0 by decide, show kdV 31 = 1 by decide]
    simp
    try omega
  by_cases h0 : v % 128 = 27
  · have b0 : (v % 128 != 27) = false := by simp [h0]
    have H0 := Lib.hid h0
    clear h0
    by_cases h1 : v / 4096 % 8 = 0
    · have b1 : (v / 4096 % 8 != 0) = false := by simp [h1]
      have H1 := Lib.hid h1
      clear h1
      go_enter Tryd.func28, Tryd.ntmps28
      go_wp2_with (first
        | (go_at_call 19; refine (HS _ (by assumption)).mono ?_; rintro e w' ⟨rfl, hb⟩)
        | (go_at_call 9; refine (HO _ (by assumption)).mono ?_; rintro e w' ⟨rfl, hb⟩)
        | (go_at_call 11; refine (HF _ (by assumption)).mono ?_; rintro e w' ⟨rfl, hb⟩)
        | (go_at_call 49; refine (HT _ (by assumption)).mono ?_; rintro e w' ⟨rfl, hb⟩)
        | (go_at_call 31; refine (HH _ (by assumption)).mono ?_; rintro e w' ⟨rfl, hb⟩))
      go_ret
      refine ⟨ret_bool (isw_of ?_), by assumption⟩
      rw [HI.out]
      have h0 := H0.out
      have h1 := H1.out
      simp
      try omega
    · have b1 : (v / 4096 % 8 != 0) = true := by simp [h1]
      have H1 := Lib.hid h1
      clear h1
      go_enter Tryd.func28, Tryd.ntmps28
      go_wp2_with (first
        | (go_at_call 19; refine (HS _ (by assumption)).mono ?_; rintro e w' ⟨rfl, hb⟩)
        | (go_at_call 9; refine (HO _ (by assumption)).mono ?_; rintro e w' ⟨rfl, hb⟩)
        | (go_at_call 11; refine (HF _ (by assumption)).mono ?_; rintro e w' ⟨rfl, hb⟩)
        | (go_at_call 49; refine (HT _ (by assumption)).mono ?_; rintro e w' ⟨rfl, hb⟩)
        | (go_at_call 31; refine (HH _ (by assumption)).mono ?_; rintro e w' ⟨rfl, hb⟩))
      go_ret
      refine ⟨ret_bool (isw_of ?_), by assumption⟩
      rw [HI.out]
      have h0 := H0.out
      have h1 := H1.out
      simp
      try omega
  · have b0 : (v % 128 != 27) = true := by simp [h0]
    have H0 := Lib.hid h0
    clear h0
    go_enter Tryd.func28, Tryd.ntmps28
    go_wp2_with (first
      | (go_at_call 19; refine (HS _ (by assumption)).mono ?_; rintro e w' ⟨rfl, hb⟩)
      | (go_at_call 9; refine (HO _ (by assumption)).mono ?_; rintro e w' ⟨rfl, hb⟩)
      | (go_at_call 11; refine (HF _ (by assumption)).mono ?_; rintro e w' ⟨rfl, hb⟩)
      | (go_at_call 49; refine (HT _ (by assumption)).mono ?_; rintro e w' ⟨rfl, hb⟩)
      | (go_at_call 31; refine (HH _ (by assumption)).mono ?_; rintro e w' ⟨rfl, hb⟩))
    go_ret
    refine ⟨ret_bool (isw_of ?_), by assumption⟩
    rw [HI.out]
    have h0 := H0.out
    simp
    try omega
set_option maxRecDepth 100000 in
theorem is_32 : IsAt 32 := by
  intro v w v0 v1
  have HS := fun w1 h => sort_bw w w1 h 32 (by decide) (by decide)
  have HO : ∀ w1, BW w w1 → _ := fun w1 h => (oc_32 w1).mono fun _ _ ⟨he, hb⟩ => And.intro he (BW.on h hb)
  have HF : ∀ w1, BW w w1 → _ := fun w1 h => (fc_32 w1).mono fun _ _ ⟨he, hb⟩ => And.intro he (BW.on h hb)
  have HT : ∀ w1, BW w w1 → _ := fun w1 h => (tu_32 w1).mono fun _ _ ⟨he, hb⟩ => And.intro he (BW.on h hb)
  have HH : ∀ w1, BW w w1 → _ := fun w1 h => (sh_32 w1).mono fun _ _ ⟨he, hb⟩ => And.intro he (BW.on h hb)
  have HV := True.intro
  have HB : BW w w := Below.refl _ _
  rw [show srt 32 = 6 by decide] at HS
  rw [show ocV 32 = 27 by decide] at HO
  rw [show f3V 32 = 1 by decide] at HF
  rw [show turB 32 = false by decide] at HT
  rw [show shV 32 = 5 by decide] at HH

  have HI : Hid (Isw v 32 ↔ v % 128 = 27 ∧ v / 4096 % 8 = 1 ∧ v / 33554432 = 0) := by
    show _ ↔ _
    unfold Isw
    rw [show ocV 32 = 27 by decide, show f3V 32 = 1 by decide, show agV 32 = 0 by decide, show kdV 32 = 2 by decide]
    simp
    try omega
  by_cases h0 : v % 128 = 27
  · have b0 : (v % 128 != 27) = false := by simp [h0]
    have H0 := Lib.hid h0
    clear h0
    by_cases h1 : v / 4096 % 8 = 1
    · have b1 : (v / 4096 % 8 != 1) = false := by simp [h1]
      have H1 := Lib.hid h1
      clear h1
      go_enter Tryd.func28, Tryd.ntmps28
      go_wp2_with (first
        | (go_at_call 19; refine (HS _ (by assumption)).mono ?_; rintro e w' ⟨rfl, hb⟩)
        | (go_at_call 9; refine (HO _ (by assumption)).mono ?_; rintro e w' ⟨rfl, hb⟩)
        | (go_at_call 11; refine (HF _ (by assumption)).mono ?_; rintro e w' ⟨rfl, hb⟩)
        | (go_at_call 49; refine (HT _ (by assumption)).mono ?_; rintro e w' ⟨rfl, hb⟩)
        | (go_at_call 31; refine (HH _ (by assumption)).mono ?_; rintro e w' ⟨rfl, hb⟩))
      go_ret
      refine ⟨ret_bool (isw_of ?_), by assumption⟩
      rw [HI.out]
      have h0 := H0.out
      have h1 := H1.out
      simp
      try omega
    · have b1 : (v / 4096 % 8 != 1) = true := by simp [h1]
      have H1 := Lib.hid h1
      clear h1
      go_enter Tryd.func28, Tryd.ntmps28
      go_wp2_with (first
        | (go_at_call 19; refine (HS _ (by assumption)).mono ?_; rintro e w' ⟨rfl, hb⟩)
        | (go_at_call 9; refine (HO _ (by assumption)).mono ?_; rintro e w' ⟨rfl, hb⟩)
        | (go_at_call 11; refine (HF _ (by assumption)).mono ?_; rintro e w' ⟨rfl, hb⟩)
        | (go_at_call 49; refine (HT _ (by assumption)).mono ?_; rintro e w' ⟨rfl, hb⟩)
        | (go_at_call 31; refine (HH _ (by assumption)).mono ?_; rintro e w' ⟨rfl, hb⟩))
      go_ret
      refine ⟨ret_bool (isw_of ?_), by assumption⟩
      rw [HI.out]
      have h0 := H0.out
      have h1 := H1.out
      simp
      try omega
  · have b0 : (v % 128 != 27) = true := by simp [h0]
    have H0 := Lib.hid h0
    clear h0
    go_enter Tryd.func28, Tryd.ntmps28
    go_wp2_with (first
      | (go_at_call 19; refine (HS _ (by assumption)).mono ?_; rintro e w' ⟨rfl, hb⟩)
      | (go_at_call 9; refine (HO _ (by assumption)).mono ?_; rintro e w' ⟨rfl, hb⟩)
      | (go_at_call 11; refine (HF _ (by assumption)).mono ?_; rintro e w' ⟨rfl, hb⟩)
      | (go_at_call 49; refine (HT _ (by assumption)).mono ?_; rintro e w' ⟨rfl, hb⟩)
      | (go_at_call 31; refine (HH _ (by assumption)).mono ?_; rintro e w' ⟨rfl, hb⟩))
    go_ret
    refine ⟨ret_bool (isw_of ?_), by assumption⟩
    rw [HI.out]
    have h0 := H0.out
    simp
    try omega
set_option maxRecDepth 100000 in
theorem is_33 : IsAt 33 := by
  intro v w v0 v1
  have HS := fun w1 h => sort_bw w w1 h 33 (by decide) (by decide)
  have HO : ∀ w1, BW w w1 → _ := fun w1 h => (oc_33 w1).mono fun _ _ ⟨he, hb⟩ => And.intro he (BW.on h hb)
  have HF : ∀ w1, BW w w1 → _ := fun w1 h => (fc_33 w1).mono fun _ _ ⟨he, hb⟩ => And.intro he (BW.on h hb)
  have HT : ∀ w1, BW w w1 → _ := fun w1 h => (tu_33 w1).mono fun _ _ ⟨he, hb⟩ => And.intro he (BW.on h hb)
  have HH : ∀ w1, BW w w1 → _ := fun w1 h => (sh_33 w1).mono fun _ _ ⟨he, hb⟩ => And.intro he (BW.on h hb)
  have HV := True.intro
  have HB : BW w w := Below.refl _ _
  rw [show srt 33 = 6 by decide] at HS
  rw [show ocV 33 = 27 by decide] at HO
  rw [show f3V 33 = 5 by decide] at HF
  rw [show turB 33 = false by decide] at HT
  rw [show shV 33 = 5 by decide] at HH

  have HI : Hid (Isw v 33 ↔ v % 128 = 27 ∧ v / 4096 % 8 = 5 ∧ v / 33554432 = 0) := by
    show _ ↔ _
    unfold Isw
    rw [show ocV 33 = 27 by decide, show f3V 33 = 5 by decide, show agV 33 = 0 by decide, show kdV 33 = 2 by decide]
    simp
    try omega
  by_cases h0 : v % 128 = 27
  · have b0 : (v % 128 != 27) = false := by simp [h0]
    have H0 := Lib.hid h0
    clear h0
    by_cases h1 : v / 4096 % 8 = 5
    · have b1 : (v / 4096 % 8 != 5) = false := by simp [h1]
      have H1 := Lib.hid h1
      clear h1
      go_enter Tryd.func28, Tryd.ntmps28
      go_wp2_with (first
        | (go_at_call 19; refine (HS _ (by assumption)).mono ?_; rintro e w' ⟨rfl, hb⟩)
        | (go_at_call 9; refine (HO _ (by assumption)).mono ?_; rintro e w' ⟨rfl, hb⟩)
        | (go_at_call 11; refine (HF _ (by assumption)).mono ?_; rintro e w' ⟨rfl, hb⟩)
        | (go_at_call 49; refine (HT _ (by assumption)).mono ?_; rintro e w' ⟨rfl, hb⟩)
        | (go_at_call 31; refine (HH _ (by assumption)).mono ?_; rintro e w' ⟨rfl, hb⟩))
      go_ret
      refine ⟨ret_bool (isw_of ?_), by assumption⟩
      rw [HI.out]
      have h0 := H0.out
      have h1 := H1.out
      simp
      try omega
    · have b1 : (v / 4096 % 8 != 5) = true := by simp [h1]
      have H1 := Lib.hid h1
      clear h1
      go_enter Tryd.func28, Tryd.ntmps28
      go_wp2_with (first
        | (go_at_call 19; refine (HS _ (by assumption)).mono ?_; rintro e w' ⟨rfl, hb⟩)
        | (go_at_call 9; refine (HO _ (by assumption)).mono ?_; rintro e w' ⟨rfl, hb⟩)
        | (go_at_call 11; refine (HF _ (by assumption)).mono ?_; rintro e w' ⟨rfl, hb⟩)
        | (go_at_call 49; refine (HT _ (by assumption)).mono ?_; rintro e w' ⟨rfl, hb⟩)
        | (go_at_call 31; refine (HH _ (by assumption)).mono ?_; rintro e w' ⟨rfl, hb⟩))
      go_ret
      refine ⟨ret_bool (isw_of ?_), by assumption⟩
      rw [HI.out]
      have h0 := H0.out
      have h1 := H1.out
      simp
      try omega
  · have b0 : (v % 128 != 27) = true := by simp [h0]
    have H0 := Lib.hid h0
    clear h0
    go_enter Tryd.func28, Tryd.ntmps28
    go_wp2_with (first
      | (go_at_call 19; refine (HS _ (by assumption)).mono ?_; rintro e w' ⟨rfl, hb⟩)
      | (go_at_call 9; refine (HO _ (by assumption)).mono ?_; rintro e w' ⟨rfl, hb⟩)
      | (go_at_call 11; refine (HF _ (by assumption)).mono ?_; rintro e w' ⟨rfl, hb⟩)
      | (go_at_call 49; refine (HT _ (by assumption)).mono ?_; rintro e w' ⟨rfl, hb⟩)
      | (go_at_call 31; refine (HH _ (by assumption)).mono ?_; rintro e w' ⟨rfl, hb⟩))
    go_ret
    refine ⟨ret_bool (isw_of ?_), by assumption⟩
    rw [HI.out]
    have h0 := H0.out
    simp
    try omega
set_option maxRecDepth 100000 in
theorem is_34 : IsAt 34 := by
  intro v w v0 v1
  have HS := fun w1 h => sort_bw w w1 h 34 (by decide) (by decide)
  have HO : ∀ w1, BW w w1 → _ := fun w1 h => (oc_34 w1).mono fun _ _ ⟨he, hb⟩ => And.intro he (BW.on h hb)
  have HF : ∀ w1, BW w w1 → _ := fun w1 h => (fc_34 w1).mono fun _ _ ⟨he, hb⟩ => And.intro he (BW.on h hb)
  have HT : ∀ w1, BW w w1 → _ := fun w1 h => (tu_34 w1).mono fun _ _ ⟨he, hb⟩ => And.intro he (BW.on h hb)
  have HH : ∀ w1, BW w w1 → _ := fun w1 h => (sh_34 w1).mono fun _ _ ⟨he, hb⟩ => And.intro he (BW.on h hb)
  have HV := True.intro
  have HB : BW w w := Below.refl _ _
  rw [show srt 34 = 6 by decide] at HS
  rw [show ocV 34 = 27 by decide] at HO
  rw [show f3V 34 = 5 by decide] at HF
  rw [show turB 34 = true by decide] at HT
  rw [show shV 34 = 5 by decide] at HH

  have HI : Hid (Isw v 34 ↔ v % 128 = 27 ∧ v / 4096 % 8 = 5 ∧ v / 33554432 = 32) := by
    show _ ↔ _
    unfold Isw
    rw [show ocV 34 = 27 by decide, show f3V 34 = 5 by decide, show agV 34 = 32 by decide, show kdV 34 = 2 by decide]
    simp
    try omega
  by_cases h0 : v % 128 = 27
  · have b0 : (v % 128 != 27) = false := by simp [h0]
    have H0 := Lib.hid h0
    clear h0
    by_cases h1 : v / 4096 % 8 = 5
    · have b1 : (v / 4096 % 8 != 5) = false := by simp [h1]
      have H1 := Lib.hid h1
      clear h1
      go_enter Tryd.func28, Tryd.ntmps28
      go_wp2_with (first
        | (go_at_call 19; refine (HS _ (by assumption)).mono ?_; rintro e w' ⟨rfl, hb⟩)
        | (go_at_call 9; refine (HO _ (by assumption)).mono ?_; rintro e w' ⟨rfl, hb⟩)
        | (go_at_call 11; refine (HF _ (by assumption)).mono ?_; rintro e w' ⟨rfl, hb⟩)
        | (go_at_call 49; refine (HT _ (by assumption)).mono ?_; rintro e w' ⟨rfl, hb⟩)
        | (go_at_call 31; refine (HH _ (by assumption)).mono ?_; rintro e w' ⟨rfl, hb⟩))
      go_ret
      refine ⟨ret_bool (isw_of ?_), by assumption⟩
      rw [HI.out]
      have h0 := H0.out
      have h1 := H1.out
      simp
      try omega
    · have b1 : (v / 4096 % 8 != 5) = true := by simp [h1]
      have H1 := Lib.hid h1
      clear h1
      go_enter Tryd.func28, Tryd.ntmps28
      go_wp2_with (first
        | (go_at_call 19; refine (HS _ (by assumption)).mono ?_; rintro e w' ⟨rfl, hb⟩)
        | (go_at_call 9; refine (HO _ (by assumption)).mono ?_; rintro e w' ⟨rfl, hb⟩)
        | (go_at_call 11; refine (HF _ (by assumption)).mono ?_; rintro e w' ⟨rfl, hb⟩)
        | (go_at_call 49; refine (HT _ (by assumption)).mono ?_; rintro e w' ⟨rfl, hb⟩)
        | (go_at_call 31; refine (HH _ (by assumption)).mono ?_; rintro e w' ⟨rfl, hb⟩))
      go_ret
      refine ⟨ret_bool (isw_of ?_), by assumption⟩
      rw [HI.out]
      have h0 := H0.out
      have h1 := H1.out
      simp
      try omega
  · have b0 : (v % 128 != 27) = true := by simp [h0]
    have H0 := Lib.hid h0
    clear h0
    go_enter Tryd.func28, Tryd.ntmps28
    go_wp2_with (first
      | (go_at_call 19; refine (HS _ (by assumption)).mono ?_; rintro e w' ⟨rfl, hb⟩)
      | (go_at_call 9; refine (HO _ (by assumption)).mono ?_; rintro e w' ⟨rfl, hb⟩)
      | (go_at_call 11; refine (HF _ (by assumption)).mono ?_; rintro e w' ⟨rfl, hb⟩)
      | (go_at_call 49; refine (HT _ (by assumption)).mono ?_; rintro e w' ⟨rfl, hb⟩)
      | (go_at_call 31; refine (HH _ (by assumption)).mono ?_; rintro e w' ⟨rfl, hb⟩))
    go_ret
    refine ⟨ret_bool (isw_of ?_), by assumption⟩
    rw [HI.out]
    have h0 := H0.out
    simp
    try omega
set_option maxRecDepth 100000 in
theorem is_35 : IsAt 35 := by
  intro v w v0 v1
  have HS := fun w1 h => sort_bw w w1 h 35 (by decide) (by decide)
  have HO : ∀ w1, BW w w1 → _ := fun w1 h => (oc_35 w1).mono fun _ _ ⟨he, hb⟩ => And.intro he (BW.on h hb)
  have HF : ∀ w1, BW w w1 → _ := fun w1 h => (fc_35 w1).mono fun _ _ ⟨he, hb⟩ => And.intro he (BW.on h hb)
  have HT : ∀ w1, BW w w1 → _ := fun w1 h => (tu_35 w1).mono fun _ _ ⟨he, hb⟩ => And.intro he (BW.on h hb)
  have HH : ∀ w1, BW w w1 → _ := fun w1 h => (sh_35 w1).mono fun _ _ ⟨he, hb⟩ => And.intro he (BW.on h hb)
  have HV := True.intro
  have HB : BW w w := Below.refl _ _
  rw [show srt 35 = 7 by decide] at HS
  rw [show ocV 35 = 51 by decide] at HO
  rw [show f3V 35 = 0 by decide] at HF
  rw [show turB 35 = false by decide] at HT
  rw [show shV 35 = 0 by decide] at HH

  have HI : Hid (Isw v 35 ↔ v % 128 = 51 ∧ v / 4096 % 8 = 0 ∧ v / 33554432 = 0) := by
    show _ ↔ _
    unfold Isw
    rw [show ocV 35 = 51 by decide, show f3V 35 = 0 by decide, show agV 35 = 0 by decide, show kdV 35 = 2 by decide]
    simp
    try omega
  by_cases h0 : v % 128 = 51
  · have b0 : (v % 128 != 51) = false := by simp [h0]
    have H0 := Lib.hid h0
    clear h0
    by_cases h1 : v / 4096 % 8 = 0
    · have b1 : (v / 4096 % 8 != 0) = false := by simp [h1]
      have H1 := Lib.hid h1
      clear h1
      go_enter Tryd.func28, Tryd.ntmps28
      go_wp2_with (first
        | (go_at_call 19; refine (HS _ (by assumption)).mono ?_; rintro e w' ⟨rfl, hb⟩)
        | (go_at_call 9; refine (HO _ (by assumption)).mono ?_; rintro e w' ⟨rfl, hb⟩)
        | (go_at_call 11; refine (HF _ (by assumption)).mono ?_; rintro e w' ⟨rfl, hb⟩)
        | (go_at_call 49; refine (HT _ (by assumption)).mono ?_; rintro e w' ⟨rfl, hb⟩)
        | (go_at_call 31; refine (HH _ (by assumption)).mono ?_; rintro e w' ⟨rfl, hb⟩))
      go_ret
      refine ⟨ret_bool (isw_of ?_), by assumption⟩
      rw [HI.out]
      have h0 := H0.out
      have h1 := H1.out
      simp
      try omega
    · have b1 : (v / 4096 % 8 != 0) = true := by simp [h1]
      have H1 := Lib.hid h1
      clear h1
      go_enter Tryd.func28, Tryd.ntmps28
      go_wp2_with (first
        | (go_at_call 19; refine (HS _ (by assumption)).mono ?_; rintro e w' ⟨rfl, hb⟩)
        | (go_at_call 9; refine (HO _ (by assumption)).mono ?_; rintro e w' ⟨rfl, hb⟩)
        | (go_at_call 11; refine (HF _ (by assumption)).mono ?_; rintro e w' ⟨rfl, hb⟩)
        | (go_at_call 49; refine (HT _ (by assumption)).mono ?_; rintro e w' ⟨rfl, hb⟩)
        | (go_at_call 31; refine (HH _ (by assumption)).mono ?_; rintro e w' ⟨rfl, hb⟩))
      go_ret
      refine ⟨ret_bool (isw_of ?_), by assumption⟩
      rw [HI.out]
      have h0 := H0.out
      have h1 := H1.out
      simp
      try omega
  · have b0 : (v % 128 != 51) = true := by simp [h0]
    have H0 := Lib.hid h0
    clear h0
    go_enter Tryd.func28, Tryd.ntmps28
    go_wp2_with (first
      | (go_at_call 19; refine (HS _ (by assumption)).mono ?_; rintro e w' ⟨rfl, hb⟩)
      | (go_at_call 9; refine (HO _ (by assumption)).mono ?_; rintro e w' ⟨rfl, hb⟩)
      | (go_at_call 11; refine (HF _ (by assumption)).mono ?_; rintro e w' ⟨rfl, hb⟩)
      | (go_at_call 49; refine (HT _ (by assumption)).mono ?_; rintro e w' ⟨rfl, hb⟩)
      | (go_at_call 31; refine (HH _ (by assumption)).mono ?_; rintro e w' ⟨rfl, hb⟩))
    go_ret
    refine ⟨ret_bool (isw_of ?_), by assumption⟩
    rw [HI.out]
    have h0 := H0.out
    simp
    try omega
set_option maxRecDepth 100000 in
theorem is_36 : IsAt 36 := by
  intro v w v0 v1
  have HS := fun w1 h => sort_bw w w1 h 36 (by decide) (by decide)
  have HO : ∀ w1, BW w w1 → _ := fun w1 h => (oc_36 w1).mono fun _ _ ⟨he, hb⟩ => And.intro he (BW.on h hb)
  have HF : ∀ w1, BW w w1 → _ := fun w1 h => (fc_36 w1).mono fun _ _ ⟨he, hb⟩ => And.intro he (BW.on h hb)
  have HT : ∀ w1, BW w w1 → _ := fun w1 h => (tu_36 w1).mono fun _ _ ⟨he, hb⟩ => And.intro he (BW.on h hb)
  have HH : ∀ w1, BW w w1 → _ := fun w1 h => (sh_36 w1).mono fun _ _ ⟨he, hb⟩ => And.intro he (BW.on h hb)
  have HV := True.intro
  have HB : BW w w := Below.refl _ _
  rw [show srt 36 = 7 by decide] at HS
  rw [show ocV 36 = 51 by decide] at HO
  rw [show f3V 36 = 0 by decide] at HF
  rw [show turB 36 = true by decide] at HT
  rw [show shV 36 = 0 by decide] at HH

  have HI : Hid (Isw v 36 ↔ v % 128 = 51 ∧ v / 4096 % 8 = 0 ∧ v / 33554432 = 32) := by
    show _ ↔ _
    unfold Isw
    rw [show ocV 36 = 51 by decide, show f3V 36 = 0 by decide, show agV 36 = 32 by decide, show kdV 36 = 2 by decide]
    simp
    try omega
  by_cases h0 : v % 128 = 51
  · have b0 : (v % 128 != 51) = false := by simp [h0]
    have H0 := Lib.hid h0
    clear h0
    by_cases h1 : v / 4096 % 8 = 0
    · have b1 : (v / 4096 % 8 != 0) = false := by simp [h1]
      have H1 := Lib.hid h1
      clear h1
      go_enter Tryd.func28, Tryd.ntmps28
      go_wp2_with (first
        | (go_at_call 19; refine (HS _ (by assumption)).mono ?_; rintro e w' ⟨rfl, hb⟩)
        | (go_at_call 9; refine (HO _ (by assumption)).mono ?_; rintro e w' ⟨rfl, hb⟩)
        | (go_at_call 11; refine (HF _ (by assumption)).mono ?_; rintro e w' ⟨rfl, hb⟩)
        | (go_at_call 49; refine (HT _ (by assumption)).mono ?_; rintro e w' ⟨rfl, hb⟩)
        | (go_at_call 31; refine (HH _ (by assumption)).mono ?_; rintro e w' ⟨rfl, hb⟩))
      go_ret
      refine ⟨ret_bool (isw_of ?_), by assumption⟩
      rw [HI.out]
      have h0 := H0.out
      have h1 := H1.out
      simp
      try omega
    · have b1 : (v / 4096 % 8 != 0) = true := by simp [h1]
      have H1 := Lib.hid h1
      clear h1
      go_enter Tryd.func28, Tryd.ntmps28
      go_wp2_with (first
        | (go_at_call 19; refine (HS _ (by assumption)).mono ?_; rintro e w' ⟨rfl, hb⟩)
        | (go_at_call 9; refine (HO _ (by assumption)).mono ?_; rintro e w' ⟨rfl, hb⟩)
        | (go_at_call 11; refine (HF _ (by assumption)).mono ?_; rintro e w' ⟨rfl, hb⟩)
        | (go_at_call 49; refine (HT _ (by assumption)).mono ?_; rintro e w' ⟨rfl, hb⟩)
        | (go_at_call 31; refine (HH _ (by assumption)).mono ?_; rintro e w' ⟨rfl, hb⟩))
      go_ret
      refine ⟨ret_bool (isw_of ?_), by assumption⟩
      rw [HI.out]
      have h0 := H0.out
      have h1 := H1.out
      simp
      try omega
  · have b0 : (v % 128 != 51) = true := by simp [h0]
    have H0 := Lib.hid h0
    clear h0
    go_enter Tryd.func28, Tryd.ntmps28
    go_wp2_with (first
      | (go_at_call 19; refine (HS _ (by assumption)).mono ?_; rintro e w' ⟨rfl, hb⟩)
      | (go_at_call 9; refine (HO _ (by assumption)).mono ?_; rintro e w' ⟨rfl, hb⟩)
      | (go_at_call 11; refine (HF _ (by assumption)).mono ?_; rintro e w' ⟨rfl, hb⟩)
      | (go_at_call 49; refine (HT _ (by assumption)).mono ?_; rintro e w' ⟨rfl, hb⟩)
      | (go_at_call 31; refine (HH _ (by assumption)).mono ?_; rintro e w' ⟨rfl, hb⟩))
    go_ret
    refine ⟨ret_bool (isw_of ?_), by assumption⟩
    rw [HI.out]
    have h0 := H0.out
    simp
    try omega
set_option maxRecDepth 100000 in
theorem is_37 : IsAt 37 := by
  intro v w v0 v1
  have HS := fun w1 h => sort_bw w w1 h 37 (by decide) (by decide)
  have HO : ∀ w1, BW w w1 → _ := fun w1 h => (oc_37 w1).mono fun _ _ ⟨he, hb⟩ => And.intro he (BW.on h hb)
  have HF : ∀ w1, BW w w1 → _ := fun w1 h => (fc_37 w1).mono fun _ _ ⟨he, hb⟩ => And.intro he (BW.on h hb)
  have HT : ∀ w1, BW w w1 → _ := fun w1 h => (tu_37 w1).mono fun _ _ ⟨he, hb⟩ => And.intro he (BW.on h hb)
  have HH : ∀ w1, BW w w1 → _ := fun w1 h => (sh_37 w1).mono fun _ _ ⟨he, hb⟩ => And.intro he (BW.on h hb)
  have HV := True.intro
  have HB : BW w w := Below.refl _ _
  rw [show srt 37 = 7 by decide] at HS
  rw [show ocV 37 = 51 by decide] at HO
  rw [show f3V 37 = 1 by decide] at HF
  rw [show turB 37 = false by decide] at HT
  rw [show shV 37 = 0 by decide] at HH

  have HI : Hid (Isw v 37 ↔ v % 128 = 51 ∧ v / 4096 % 8 = 1 ∧ v / 33554432 = 0) := by
    show _ ↔ _
    unfold Isw
    rw [show ocV 37 = 51 by decide, show f3V 37 = 1 by decide, show agV 37 = 0 by decide, show kdV 37 = 2 by decide]
    simp
    try omega
  by_cases h0 : v % 128 = 51
  · have b0 : (v % 128 != 51) = false := by simp [h0]
    have H0 := Lib.hid h0
    clear h0
    by_cases h1 : v / 4096 % 8 = 1
    · have b1 : (v / 4096 % 8 != 1) = false := by simp [h1]
      have H1 := Lib.hid h1
      clear h1
      go_enter Tryd.func28, Tryd.ntmps28
      go_wp2_with (first
        | (go_at_call 19; refine (HS _ (by assumption)).mono ?_; rintro e w' ⟨rfl, hb⟩)
        | (go_at_call 9; refine (HO _ (by assumption)).mono ?_; rintro e w' ⟨rfl, hb⟩)
        | (go_at_call 11; refine (HF _ (by assumption)).mono ?_; rintro e w' ⟨rfl, hb⟩)
        | (go_at_call 49; refine (HT _ (by assumption)).mono ?_; rintro e w' ⟨rfl, hb⟩)
        | (go_at_call 31; refine (HH _ (by assumption)).mono ?_; rintro e w' ⟨rfl, hb⟩))
      go_ret
      refine ⟨ret_bool (isw_of ?_), by assumption⟩
      rw [HI.out]
      have h0 := H0.out
      have h1 := H1.out
      simp
      try omega
    · have b1 : (v / 4096 % 8 != 1) = true := by simp [h1]
      have H1 := Lib.hid h1
      clear h1
      go_enter Tryd.func28, Tryd.ntmps28
      go_wp2_with (first
        | (go_at_call 19; refine (HS _ (by assumption)).mono ?_; rintro e w' ⟨rfl, hb⟩)
        | (go_at_call 9; refine (HO _ (by assumption)).mono ?_; rintro e w' ⟨rfl, hb⟩)
        | (go_at_call 11; refine (HF _ (by assumption)).mono ?_; rintro e w' ⟨rfl, hb⟩)
        | (go_at_call 49; refine (HT _ (by assumption)).mono ?_; rintro e w' ⟨rfl, hb⟩)
        | (go_at_call 31; refine (HH _ (by assumption)).mono ?_; rintro e w' ⟨rfl, hb⟩))
      go_ret
      refine ⟨ret_bool (isw_of ?_), by assumption⟩
      rw [HI.out]
      have h0 := H0.out
      have h1 := H1.out
      simp
      try omega
  · have b0 : (v % 128 != 51) = true := by simp [h0]
    have H0 := Lib.hid h0
    clear h0
    go_enter Tryd.func28, Tryd.ntmps28
    go_wp2_with (first
      | (go_at_call 19; refine (HS _ (by assumption)).mono ?_; rintro e w' ⟨rfl, hb⟩)
      | (go_at_call 9; refine (HO _ (by assumption)).mono ?_; rintro e w' ⟨rfl, hb⟩)
      | (go_at_call 11; refine (HF _ (by assumption)).mono ?_; rintro e w' ⟨rfl, hb⟩)
      | (go_at_call 49; refine (HT _ (by assumption)).mono ?_; rintro e w' ⟨rfl, hb⟩)
      | (go_at_call 31; refine (HH _ (by assumption)).mono ?_; rintro e w' ⟨rfl, hb⟩))
    go_ret
    refine ⟨ret_bool (isw_of ?_), by assumption⟩
    rw [HI.out]
    have h0 := H0.out
    simp
    try omega
set_option maxRecDepth 100000 in
theorem is_38 : IsAt 38 := by
  intro v w v0 v1
  have HS := fun w1 h => sort_bw w w1 h 38 (by decide) (by decide)
  have HO : ∀ w1, BW w w1 → _ := fun w1 h => (oc_38 w1).mono fun _ _ ⟨he, hb⟩ => And.intro he (BW.on h hb)
  have HF : ∀ w1, BW w w1 → _ := fun w1 h => (fc_38 w1).mono fun _ _ ⟨he, hb⟩ => And.intro he (BW.on h hb)
  have HT : ∀ w1, BW w w1 → _ := fun w1 h => (tu_38 w1).mono fun _ _ ⟨he, hb⟩ => And.intro he (BW.on h hb)
  have HH : ∀ w1, BW w w1 → _ := fun w1 h => (sh_38 w1).mono fun _ _ ⟨he, hb⟩ => And.intro he (BW.on h hb)
  have HV := True.intro
  have HB : BW w w := Below.refl _ _
  rw [show srt 38 = 7 by decide] at HS
  rw [show ocV 38 = 51 by decide] at HO
  rw [show f3V 38 = 2 by decide] at HF
  rw [show turB 38 = false by decide] at HT
  rw [show shV 38 = 0 by decide] at HH

  have HI : Hid (Isw v 38 ↔ v % 128 = 51 ∧ v / 4096 % 8 = 2 ∧ v / 33554432 = 0) := by
    show _ ↔ _
    unfold Isw
    rw [show ocV 38 = 51 by decide, show f3V 38 = 2 by decide, show agV 38 = 0 by decide, show kdV 38 = 2 by decide]
    simp
    try omega
  by_cases h0 : v % 128 = 51
  · have b0 : (v % 128 != 51) = false := by simp [h0]
    have H0 := Lib.hid h0
    clear h0
    by_cases h1 : v / 4096 % 8 = 2
    · have b1 : (v / 4096 % 8 != 2) = false := by simp [h1]
      have H1 := Lib.hid h1
      clear h1
      go_enter Tryd.func28, Tryd.ntmps28
      go_wp2_with (first
        | (go_at_call 19; refine (HS _ (by assumption)).mono ?_; rintro e w' ⟨rfl, hb⟩)
        | (go_at_call 9; refine (HO _ (by assumption)).mono ?_; rintro e w' ⟨rfl, hb⟩)
        | (go_at_call 11; refine (HF _ (by assumption)).mono ?_; rintro e w' ⟨rfl, hb⟩)
        | (go_at_call 49; refine (HT _ (by assumption)).mono ?_; rintro e w' ⟨rfl, hb⟩)
        | (go_at_call 31; refine (HH _ (by assumption)).mono ?_; rintro e w' ⟨rfl, hb⟩))
      go_ret
      refine ⟨ret_bool (isw_of ?_), by assumption⟩
      rw [HI.out]
      have h0 := H0.out
      have h1 := H1.out
      simp
      try omega
    · have b1 : (v / 4096 % 8 != 2) = true := by simp [h1]
      have H1 := Lib.hid h1
      clear h1
      go_enter Tryd.func28, Tryd.ntmps28
      go_wp2_with (first
        | (go_at_call 19; refine (HS _ (by assumption)).mono ?_; rintro e w' ⟨rfl, hb⟩)
        | (go_at_call 9; refine (HO _ (by assumption)).mono ?_; rintro e w' ⟨rfl, hb⟩)
        | (go_at_call 11; refine (HF _ (by assumption)).mono ?_; rintro e w' ⟨rfl, hb⟩)
        | (go_at_call 49; refine (HT _ (by assumption)).mono ?_; rintro e w' ⟨rfl, hb⟩)
        | (go_at_call 31; refine (HH _ (by assumption)).mono ?_; rintro e w' ⟨rfl, hb⟩))
      go_ret
      refine ⟨ret_bool (isw_of ?_), by assumption⟩
      rw [HI.out]
      have h0 := H0.out
      have h1 := H1.out
      simp
      try omega
  · have b0 : (v % 128 != 51) = true := by simp [h0]
    have H0 := Lib.hid h0
    clear h0
    go_enter Tryd.func28, Tryd.ntmps28
    go_wp2_with (first
      | (go_at_call 19; refine (HS _ (by assumption)).mono ?_; rintro e w' ⟨rfl, hb⟩)
      | (go_at_call 9; refine (HO _ (by assumption)).mono ?_; rintro e w' ⟨rfl, hb⟩)
      | (go_at_call 11; refine (HF _ (by assumption)).mono ?_; rintro e w' ⟨rfl, hb⟩)
      | (go_at_call 49; refine (HT _ (by assumption)).mono ?_; rintro e w' ⟨rfl, hb⟩)
      | (go_at_call 31; refine (HH _ (by assumption)).mono ?_; rintro e w' ⟨rfl, hb⟩))
    go_ret
    refine ⟨ret_bool (isw_of ?_), by assumption⟩
    rw [HI.out]
    have h0 := H0.out
    simp
    try omega
set_option maxRecDepth 100000 in
theorem is_39 : IsAt 39 := by
  intro v w v0 v1
  have HS := fun w1 h => sort_bw w w1 h 39 (by decide) (by decide)
  have HO : ∀ w1, BW w w1 → _ := fun w1 h => (oc_39 w1).mono fun _ _ ⟨he, hb⟩ => And.intro he (BW.on h hb)
  have HF : ∀ w1, BW w w1 → _ := fun w1 h => (fc_39 w1).mono fun _ _ ⟨he, hb⟩ => And.intro he (BW.on h hb)
  have HT : ∀ w1, BW w w1 → _ := fun w1 h => (tu_39 w1).mono fun _ _ ⟨he, hb⟩ => And.intro he (BW.on h hb)
  have HH : ∀ w1, BW w w1 → _ := fun w1 h => (sh_39 w1).mono fun _ _ ⟨he, hb⟩ => And.intro he (BW.on h hb)
  have HV := True.intro
  have HB : BW w w := Below.refl _ _
  rw [show srt 39 = 7 by decide] at HS
  rw [show ocV 39 = 51 by decide] at HO
  rw [show f3V 39 = 3 by decide] at HF
  rw [show turB 39 = false by decide] at HT
  rw [show shV 39 = 0 by decide] at HH

  have HI : Hid (Isw v 39 ↔ v % 128 = 51 ∧ v / 4096 % 8 = 3 ∧ v / 33554432 = 0) := by
    show _ ↔ _
    unfold Isw
    rw [show ocV 39 = 51 by decide, show f3V 39 = 3 by decide, show agV 39 = 0 by decide, show kdV 39 = 2 by decide]
    simp
    try omega
  by_cases h0 : v % 128 = 51
  · have b0 : (v % 128 != 51) = false := by simp [h0]
    have H0 := Lib.hid h0
    clear h0
    by_cases h1 : v / 4096 % 8 = 3
    · have b1 : (v / 4096 % 8 != 3) = false := by simp [h1]
      have H1 := Lib.hid h1
      clear h1
      go_enter Tryd.func28, Tryd.ntmps28
      go_wp2_with (first
        | (go_at_call 19; refine (HS _ (by assumption)).mono ?_; rintro e w' ⟨rfl, hb⟩)
        | (go_at_call 9; refine (HO _ (by assumption)).mono ?_; rintro e w' ⟨rfl, hb⟩)
        | (go_at_call 11; refine (HF _ (by assumption)).mono ?_; rintro e w' ⟨rfl, hb⟩)
        | (go_at_call 49; refine (HT _ (by assumption)).mono ?_; rintro e w' ⟨rfl, hb⟩)
        | (go_at_call 31; refine (HH _ (by assumption)).mono ?_; rintro e w' ⟨rfl, hb⟩))
      go_ret
      refine ⟨ret_bool (isw_of ?_), by assumption⟩
      rw [HI.out]
      have h0 := H0.out
      have h1 := H1.out
      simp
      try omega
    · have b1 : (v / 4096 % 8 != 3) = true := by simp [h1]
      have H1 := Lib.hid h1
      clear h1
      go_enter Tryd.func28, Tryd.ntmps28
      go_wp2_with (first
        | (go_at_call 19; refine (HS _ (by assumption)).mono ?_; rintro e w' ⟨rfl, hb⟩)
        | (go_at_call 9; refine (HO _ (by assumption)).mono ?_; rintro e w' ⟨rfl, hb⟩)
        | (go_at_call 11; refine (HF _ (by assumption)).mono ?_; rintro e w' ⟨rfl, hb⟩)
        | (go_at_call 49; refine (HT _ (by assumption)).mono ?_; rintro e w' ⟨rfl, hb⟩)
        | (go_at_call 31; refine (HH _ (by assumption)).mono ?_; rintro e w' ⟨rfl, hb⟩))
      go_ret
      refine ⟨ret_bool (isw_of ?_), by assumption⟩
      rw [HI.out]
      have h0 := H0.out
      have h1 := H1.out
      simp
      try omega
  · have b0 : (v % 128 != 51) = true := by simp [h0]
    have H0 := Lib.hid h0
    clear h0
    go_enter Tryd.func28, Tryd.ntmps28
    go_wp2_with (first
      | (go_at_call 19; refine (HS _ (by assumption)).mono ?_; rintro e w' ⟨rfl, hb⟩)
      | (go_at_call 9; refine (HO _ (by assumption)).mono ?_; rintro e w' ⟨rfl, hb⟩)
      | (go_at_call 11; refine (HF _ (by assumption)).mono ?_; rintro e w' ⟨rfl, hb⟩)
      | (go_at_call 49; refine (HT _ (by assumption)).mono ?_; rintro e w' ⟨rfl, hb⟩)
      | (go_at_call 31; refine (HH _ (by assumption)).mono ?_; rintro e w' ⟨rfl, hb⟩))
    go_ret
    refine ⟨ret_bool (isw_of ?_), by assumption⟩
    rw [HI.out]
    have h0 := H0.out
    simp
    try omega
set_option maxRecDepth 100000 in
theorem is_40 : IsAt 40 := by
  intro v w v0 v1
  have HS := fun w1 h => sort_bw w w1 h 40 (by decide) (by decide)
  have HO : ∀ w1, BW w w1 → _ := fun w1 h => (oc_40 w1).mono fun _ _ ⟨he, hb⟩ => And.intro he (BW.on h hb)
  have HF : ∀ w1, BW w w1 → _ := fun w1 h => (fc_40 w1).mono fun _ _ ⟨he, hb⟩ => And.intro he (BW.on h hb)
  have HT : ∀ w1, BW w w1 → _ := fun w1 h => (tu_40 w1).mono fun _ _ ⟨he, hb⟩ => And.intro he (BW.on h hb)
  have HH : ∀ w1, BW w w1 → _ := fun w1 h => (sh_40 w1).mono fun _ _ ⟨he, hb⟩ => And.intro he (BW.on h hb)
  have HV := True.intro
  have HB : BW w w := Below.refl _ _
  rw [show srt 40 = 7 by decide] at HS
  rw [show ocV 40 = 51 by decide] at HO
  rw [show f3V 40 = 4 by decide] at HF
  rw [show turB 40 = false by decide] at HT
  rw [show shV 40 = 0 by decide] at HH

  have HI : Hid (Isw v 40 ↔ v % 128 = 51 ∧ v / 4096 % 8 = 4 ∧ v / 33554432 = 0) := by
    show _ ↔ _
    unfold Isw
    rw [show ocV 40 = 51 by decide, show f3V 40 = 4 by decide, show agV 40 = 0 by decide, show kdV 40 = 2 by decide]
    simp
    try omega
  by_cases h0 : v % 128 = 51
  · have b0 : (v % 128 != 51) = false := by simp [h0]
    have H0 := Lib.hid h0
    clear h0
    by_cases h1 : v / 4096 % 8 = 4
    · have b1 : (v / 4096 % 8 != 4) = false := by simp [h1]
      have H1 := Lib.hid h1
      clear h1
      go_enter Tryd.func28, Tryd.ntmps28
      go_wp2_with (first
        | (go_at_call 19; refine (HS _ (by assumption)).mono ?_; rintro e w' ⟨rfl, hb⟩)
        | (go_at_call 9; refine (HO _ (by assumption)).mono ?_; rintro e w' ⟨rfl, hb⟩)
        | (go_at_call 11; refine (HF _ (by assumption)).mono ?_; rintro e w' ⟨rfl, hb⟩)
        | (go_at_call 49; refine (HT _ (by assumption)).mono ?_; rintro e w' ⟨rfl, hb⟩)
        | (go_at_call 31; refine (HH _ (by assumption)).mono ?_; rintro e w' ⟨rfl, hb⟩))
      go_ret
      refine ⟨ret_bool (isw_of ?_), by assumption⟩
      rw [HI.out]
      have h0 := H0.out
      have h1 := H1.out
      simp
      try omega
    · have b1 : (v / 4096 % 8 != 4) = true := by simp [h1]
      have H1 := Lib.hid h1
      clear h1
      go_enter Tryd.func28, Tryd.ntmps28
      go_wp2_with (first
        | (go_at_call 19; refine (HS _ (by assumption)).mono ?_; rintro e w' ⟨rfl, hb⟩)
        | (go_at_call 9; refine (HO _ (by assumption)).mono ?_; rintro e w' ⟨rfl, hb⟩)
        | (go_at_call 11; refine (HF _ (by assumption)).mono ?_; rintro e w' ⟨rfl, hb⟩)
        | (go_at_call 49; refine (HT _ (by assumption)).mono ?_; rintro e w' ⟨rfl, hb⟩)
        | (go_at_call 31; refine (HH _ (by assumption)).mono ?_; rintro e w' ⟨rfl, hb⟩))
      go_ret
      refine ⟨ret_bool (isw_of ?_), by assumption⟩
      rw [HI.out]
      have h0 := H0.out
      have h1 := H1.out
      simp
      try omega
  · have b0 : (v % 128 != 51) = true := by simp [h0]
    have H0 := Lib.hid h0
    clear h0
    go_enter Tryd.func28, Tryd.ntmps28
    go_wp2_with (first
      | (go_at_call 19; refine (HS _ (by assumption)).mono ?_; rintro e w' ⟨rfl, hb⟩)
      | (go_at_call 9; refine (HO _ (by assumption)).mono ?_; rintro e w' ⟨rfl, hb⟩)
      | (go_at_call 11; refine (HF _ (by assumption)).mono ?_; rintro e w' ⟨rfl, hb⟩)
      | (go_at_call 49; refine (HT _ (by assumption)).mono ?_; rintro e w' ⟨rfl, hb⟩)
      | (go_at_call 31; refine (HH _ (by assumption)).mono ?_; rintro e w' ⟨rfl, hb⟩))
    go_ret
    refine ⟨ret_bool (isw_of ?_), by assumption⟩
    rw [HI.out]
    have h0 := H0.out
    simp
    try omega
set_option maxRecDepth 100000 in
theorem is_41 : IsAt 41 := by
  intro v w v0 v1
  have HS := fun w1 h => sort_bw w w1 h 41 (by decide) (by decide)
  have HO : ∀ w1, BW w w1 → _ := fun w1 h => (oc_41 w1).mono fun _ _ ⟨he, hb⟩ => And.intro he (BW.on h hb)
  have HF : ∀ w1, BW w w1 → _ := fun w1 h => (fc_41 w1).mono fun _ _ ⟨he, hb⟩ => And.intro he (BW.on h hb)
  have HT : ∀ w1, BW w w1 → _ := fun w1 h => (tu_41 w1).mono fun _ _ ⟨he, hb⟩ => And.intro he (BW.on h hb)
  have HH : ∀ w1, BW w w1 → _ := fun w1 h => (sh_41 w1).mono fun _ _ ⟨he, hb⟩ => And.intro he (BW.on h hb)
  have HV := True.intro
  have HB : BW w w := Below.refl _ _
  rw [show srt 41 = 7 by decide] at HS
  rw [show ocV 41 = 51 by decide] at HO
  rw [show f3V 41 = 5 by decide] at HF
  rw [show turB 41 = false by decide] at HT
  rw [show shV 41 = 0 by decide] at HH

  have HI : Hid (Isw v 41 ↔ v % 128 = 51 ∧ v / 4096 % 8 = 5 ∧ v / 33554432 = 0) := by
    show _ ↔ _
    unfold Isw
    rw [show ocV 41 = 51 by decide, show f3V 41 = 5 by decide, show agV 41 = 0 by decide, show kdV 41 = 2 by decide]
    simp
    try omega
  by_cases h0 : v % 128 = 51
  · have b0 : (v % 128 != 51) = false := by simp [h0]
    have H0 := Lib.hid h0
    clear h0
    by_cases h1 : v / 4096 % 8 = 5
    · have b1 : (v / 4096 % 8 != 5) = false := by simp [h1]
      have H1 := Lib.hid h1
      clear h1
      go_enter Tryd.func28, Tryd.ntmps28
      go_wp2_with (first
        | (go_at_call 19; refine (HS _ (by assumption)).mono ?_; rintro e w' ⟨rfl, hb⟩)
        | (go_at_call 9; refine (HO _ (by assumption)).mono ?_; rintro e w' ⟨rfl, hb⟩)
        | (go_at_call 11; refine (HF _ (by assumption)).mono ?_; rintro e w' ⟨rfl, hb⟩)
        | (go_at_call 49; refine (HT _ (by assumption)).mono ?_; rintro e w' ⟨rfl, hb⟩)
        | (go_at_call 31; refine (HH _ (by assumption)).mono ?_; rintro e w' ⟨rfl, hb⟩))
      go_ret
      refine ⟨ret_bool (isw_of ?_), by assumption⟩
      rw [HI.out]
      have h0 := H0.out
      have h1 := H1.out
      simp
      try omega
    · have b1 : (v / 4096 % 8 != 5) = true := by simp [h1]
      have H1 := Lib.hid h1
      clear h1
      go_enter Tryd.func28, Tryd.ntmps28
      go_wp2_with (first
        | (go_at_call 19; refine (HS _ (by assumption)).mono ?_; rintro e w' ⟨rfl, hb⟩)
        | (go_at_call 9; refine (HO _ (by assumption)).mono ?_; rintro e w' ⟨rfl, hb⟩)
        | (go_at_call 11; refine (HF _ (by assumption)).mono ?_; rintro e w' ⟨rfl, hb⟩)
        | (go_at_call 49; refine (HT _ (by assumption)).mono ?_; rintro e w' ⟨rfl, hb⟩)
        | (go_at_call 31; refine (HH _ (by assumption)).mono ?_; rintro e w' ⟨rfl, hb⟩))
      go_ret
      refine ⟨ret_bool (isw_of ?_), by assumption⟩
      rw [HI.out]
      have h0 := H0.out
      have h1 := H1.out
      simp
      try omega
  · have b0 : (v % 128 != 51) = true := by simp [h0]
    have H0 := Lib.hid h0
    clear h0
    go_enter Tryd.func28, Tryd.ntmps28
    go_wp2_with (first
      | (go_at_call 19; refine (HS _ (by assumption)).mono ?_; rintro e w' ⟨rfl, hb⟩)
      | (go_at_call 9; refine (HO _ (by assumption)).mono ?_; rintro e w' ⟨rfl, hb⟩)
      | (go_at_call 11; refine (HF _ (by assumption)).mono ?_; rintro e w' ⟨rfl, hb⟩)
      | (go_at_call 49; refine (HT _ (by assumption)).mono ?_; rintro e w' ⟨rfl, hb⟩)
      | (go_at_call 31; refine (HH _ (by assumption)).mono ?_; rintro e w' ⟨rfl, hb⟩))
    go_ret
    refine ⟨ret_bool (isw_of ?_), by assumption⟩
    rw [HI.out]
    have h0 := H0.out
    simp
    try omega
set_option maxRecDepth 100000 in
theorem is_42 : IsAt 42 := by
  intro v w v0 v1
  have HS := fun w1 h => sort_bw w w1 h 42 (by decide) (by decide)
  have HO : ∀ w1, BW w w1 → _ := fun w1 h => (oc_42 w1).mono fun _ _ ⟨he, hb⟩ => And.intro he (BW.on h hb)
  have HF : ∀ w1, BW w w1 → _ := fun w1 h => (fc_42 w1).mono fun _ _ ⟨he, hb⟩ => And.intro he (BW.on h hb)
  have HT : ∀ w1, BW w w1 → _ := fun w1 h => (tu_42 w1).mono fun _ _ ⟨he, hb⟩ => And.intro he (BW.on h hb)
  have HH : ∀ w1, BW w w1 → _ := fun w1 h => (sh_42 w1).mono fun _ _ ⟨he, hb⟩ => And.intro he (BW.on h hb)
  have HV := True.intro
  have HB : BW w w := Below.refl _ _
  rw [show srt 42 = 7 by decide] at HS
  rw [show ocV 42 = 51 by decide] at HO
  rw [show f3V 42 = 5 by decide] at HF
  rw [show turB 42 = true by decide] at HT
  rw [show shV 42 = 0 by decide] at HH

  have HI : Hid (Isw v 42 ↔ v % 128 = 51 ∧ v / 4096 % 8 = 5 ∧ v / 33554432 = 32) := by
    show _ ↔ _
    unfold Isw
    rw [show ocV 42 = 51 by decide, show f3V 42 = 5 by decide, show agV 42 = 32 by decide, show kdV 42 = 2 by decide]
    simp
    try omega
  by_cases h0 : v % 128 = 51
  · have b0 : (v % 128 != 51) = false := by simp [h0]
    have H0 := Lib.hid h0
    clear h0
    by_cases h1 : v / 4096 % 8 = 5
    · have b1 : (v / 4096 % 8 != 5) = false := by simp [h1]
      have H1 := Lib.hid h1
      clear h1
      go_enter Tryd.func28, Tryd.ntmps28
      go_wp2_with (first
        | (go_at_call 19; refine (HS _ (by assumption)).mono ?_; rintro e w' ⟨rfl, hb⟩)
        | (go_at_call 9; refine (HO _ (by assumption)).mono ?_; rintro e w' ⟨rfl, hb⟩)
        | (go_at_call 11; refine (HF _ (by assumption)).mono ?_; rintro e w' ⟨rfl, hb⟩)
        | (go_at_call 49; refine (HT _ (by assumption)).mono ?_; rintro e w' ⟨rfl, hb⟩)
        | (go_at_call 31; refine (HH _ (by assumption)).mono ?_; rintro e w' ⟨rfl, hb⟩))
      go_ret
      refine ⟨ret_bool (isw_of ?_), by assumption⟩
      rw [HI.out]
      have h0 := H0.out
      have h1 := H1.out
      simp
      try omega
    · have b1 : (v / 4096 % 8 != 5) = true := by simp [h1]
      have H1 := Lib.hid h1
      clear h1
      go_enter Tryd.func28, Tryd.ntmps28
      go_wp2_with (first
        | (go_at_call 19; refine (HS _ (by assumption)).mono ?_; rintro e w' ⟨rfl, hb⟩)
        | (go_at_call 9; refine (HO _ (by assumption)).mono ?_; rintro e w' ⟨rfl, hb⟩)
        | (go_at_call 11; refine (HF _ (by assumption)).mono ?_; rintro e w' ⟨rfl, hb⟩)
        | (go_at_call 49; refine (HT _ (by assumption)).mono ?_; rintro e w' ⟨rfl, hb⟩)
        | (go_at_call 31; refine (HH _ (by assumption)).mono ?_; rintro e w' ⟨rfl, hb⟩))
      go_ret
      refine ⟨ret_bool (isw_of ?_), by assumption⟩
      rw [HI.out]
      have h0 := H0.out
      have h1 := H1.out
      simp
      try omega
  · have b0 : (v % 128 != 51) = true := by simp [h0]
    have H0 := Lib.hid h0
    clear h0
    go_enter Tryd.func28, Tryd.ntmps28
    go_wp2_with (first
      | (go_at_call 19; refine (HS _ (by assumption)).mono ?_; rintro e w' ⟨rfl, hb⟩)
      | (go_at_call 9; refine (HO _ (by assumption)).mono ?_; rintro e w' ⟨rfl, hb⟩)
      | (go_at_call 11; refine (HF _ (by assumption)).mono ?_; rintro e w' ⟨rfl, hb⟩)
      | (go_at_call 49; refine (HT _ (by assumption)).mono ?_; rintro e w' ⟨rfl, hb⟩)
      | (go_at_call 31; refine (HH _ (by assumption)).mono ?_; rintro e w' ⟨rfl, hb⟩))
    go_ret
    refine ⟨ret_bool (isw_of ?_), by assumption⟩
    rw [HI.out]
    have h0 := H0.out
    simp
    try omega
set_option maxRecDepth 100000 in
theorem is_43 : IsAt 43 := by
  intro v w v0 v1
  have HS := fun w1 h => sort_bw w w1 h 43 (by decide) (by decide)
  have HO : ∀ w1, BW w w1 → _ := fun w1 h => (oc_43 w1).mono fun _ _ ⟨he, hb⟩ => And.intro he (BW.on h hb)
  have HF : ∀ w1, BW w w1 → _ := fun w1 h => (fc_43 w1).mono fun _ _ ⟨he, hb⟩ => And.intro he (BW.on h hb)
  have HT : ∀ w1, BW w w1 → _ := fun w1 h => (tu_43 w1).mono fun _ _ ⟨he, hb⟩ => And.intro he (BW.on h hb)
  have HH : ∀ w1, BW w w1 → _ := fun w1 h => (sh_43 w1).mono fun _ _ ⟨he, hb⟩ => And.intro he (BW.on h hb)
  have HV := True.intro
  have HB : BW w w := Below.refl _ _
  rw [show srt 43 = 7 by decide] at HS
  rw [show ocV 43 = 51 by decide] at HO
  rw [show f3V 43 = 6 by decide] at HF
  rw [show turB 43 = false by decide] at HT
  rw [show shV 43 = 0 by decide] at HH

  have HI : Hid (Isw v 43 ↔ v % 128 = 51 ∧ v / 4096 % 8 = 6 ∧ v / 33554432 = 0) := by
    show _ ↔ _
    unfold Isw
    rw [show ocV 43 = 51 by decide, show f3V 43 = 6 by decide, show agV 43 = 0 by decide, show kdV 43 = 2 by decide]
    simp
    try omega
  by_cases h0 : v % 128 = 51
  · have b0 : (v % 128 != 51) = false := by simp [h0]
    have H0 := Lib.hid h0
    clear h0
    by_cases h1 : v / 4096 % 8 = 6
    · have b1 : (v / 4096 % 8 != 6) = false := by simp [h1]
      have H1 := Lib.hid h1
      clear h1
      go_enter Tryd.func28, Tryd.ntmps28
      go_wp2_with (first
        | (go_at_call 19; refine (HS _ (by assumption)).mono ?_; rintro e w' ⟨rfl, hb⟩)
        | (go_at_call 9; refine (HO _ (by assumption)).mono ?_; rintro e w' ⟨rfl, hb⟩)
        | (go_at_call 11; refine (HF _ (by assumption)).mono ?_; rintro e w' ⟨rfl, hb⟩)
        | (go_at_call 49; refine (HT _ (by assumption)).mono ?_; rintro e w' ⟨rfl, hb⟩)
        | (go_at_call 31; refine (HH _ (by assumption)).mono ?_; rintro e w' ⟨rfl, hb⟩))
      go_ret
      refine ⟨ret_bool (isw_of ?_), by assumption⟩
      rw [HI.out]
      have h0 := H0.out
      have h1 := H1.out
      simp
      try omega
    · have b1 : (v / 4096 % 8 != 6) = true := by simp [h1]
      have H1 := Lib.hid h1
      clear h1
      go_enter Tryd.func28, Tryd.ntmps28
      go_wp2_with (first
        | (go_at_call 19; refine (HS _ (by assumption)).mono ?_; rintro e w' ⟨rfl, hb⟩)
        | (go_at_call 9; refine (HO _ (by assumption)).mono ?_; rintro e w' ⟨rfl, hb⟩)
        | (go_at_call 11; refine (HF _ (by assumption)).mono ?_; rintro e w' ⟨rfl, hb⟩)
        | (go_at_call 49; refine (HT _ (by assumption)).mono ?_; rintro e w' ⟨rfl, hb⟩)
        | (go_at_call 31; refine (HH _ (by assumption)).mono ?_; rintro e w' ⟨rfl, hb⟩))
      go_ret
      refine ⟨ret_bool (isw_of ?_), by assumption⟩
      rw [HI.out]
      have h0 := H0.out
      have h1 := H1.out
      simp
      try omega
  · have b0 : (v % 128 != 51) = true := by simp [h0]
    have H0 := Lib.hid h0
    clear h0
    go_enter Tryd.func28, Tryd.ntmps28
    go_wp2_with (first
      | (go_at_call 19; refine (HS _ (by assumption)).mono ?_; rintro e w' ⟨rfl, hb⟩)
      | (go_at_call 9; refine (HO _ (by assumption)).mono ?_; rintro e w' ⟨rfl, hb⟩)
      | (go_at_call 11; refine (HF _ (by assumption)).mono ?_; rintro e w' ⟨rfl, hb⟩)
      | (go_at_call 49; refine (HT _ (by assumption)).mono ?_; rintro e w' ⟨rfl, hb⟩)
      | (go_at_call 31; refine (HH _ (by assumption)).mono ?_; rintro e w' ⟨rfl, hb⟩))
    go_ret
    refine ⟨ret_bool (isw_of ?_), by assumption⟩
    rw [HI.out]
    have h0 := H0.out
    simp
    try omega
set_option maxRecDepth 100000 in
theorem is_44 : IsAt 44 := by
  intro v w v0 v1
  have HS := fun w1 h => sort_bw w w1 h 44 (by decide) (by decide)
  have HO : ∀ w1, BW w w1 → _ := fun w1 h => (oc_44 w1).mono fun _ _ ⟨he, hb⟩ => And.intro he (BW.on h hb)
  have HF : ∀ w1, BW w w1 → _ := fun w1 h => (fc_44 w1).mono fun _ _ ⟨he, hb⟩ => And.intro he (BW.on h hb)
  have HT : ∀ w1, BW w w1 → _ := fun w1 h => (tu_44 w1).mono fun _ _ ⟨he, hb⟩ => And.intro he (BW.on h hb)
  have HH : ∀ w1, BW w w1 → _ := fun w1 h => (sh_44 w1).mono fun _ _ ⟨he, hb⟩ => And.intro he (BW.on h hb)
  have HV := True.intro
  have HB : BW w w := Below.refl _ _
  rw [show srt 44 = 7 by decide] at HS
  rw [show ocV 44 = 51 by decide] at HO
  rw [show f3V 44 = 7 by decide] at HF
  rw [show turB 44 = false by decide] at HT
  rw [show shV 44 = 0 by decide] at HH

  have HI : Hid (Isw v 44 ↔ v % 128 = 51 ∧ v / 4096 % 8 = 7 ∧ v / 33554432 = 0) := by
    show _ ↔ _
    unfold Isw
    rw [show ocV 44 = 51 by decide, show f3V 44 = 7 by decide, show agV 44 = 0 by decide, show kdV 44 = 2 by decide]
    simp
    try omega
  by_cases h0 : v % 128 = 51
  · have b0 : (v % 128 != 51) = false := by simp [h0]
    have H0 := Lib.hid h0
    clear h0
    by_cases h1 : v / 4096 % 8 = 7
    · have b1 : (v / 4096 % 8 != 7) = false := by simp [h1]
      have H1 := Lib.hid h1
      clear h1
      go_enter Tryd.func28, Tryd.ntmps28
      go_wp2_with (first
        | (go_at_call 19; refine (HS _ (by assumption)).mono ?_; rintro e w' ⟨rfl, hb⟩)
        | (go_at_call 9; refine (HO _ (by assumption)).mono ?_; rintro e w' ⟨rfl, hb⟩)
        | (go_at_call 11; refine (HF _ (by assumption)).mono ?_; rintro e w' ⟨rfl, hb⟩)
        | (go_at_call 49; refine (HT _ (by assumption)).mono ?_; rintro e w' ⟨rfl, hb⟩)
        | (go_at_call 31; refine (HH _ (by assumption)).mono ?_; rintro e w' ⟨rfl, hb⟩))
      go_ret
      refine ⟨ret_bool (isw_of ?_), by assumption⟩
      rw [HI.out]
      have h0 := H0.out
      have h1 := H1.out
      simp
      try omega
    · have b1 : (v / 4096 % 8 != 7) = true := by simp [h1]
      have H1 := Lib.hid h1
      clear h1
      go_enter Tryd.func28, Tryd.ntmps28
      go_wp2_with (first
        | (go_at_call 19; refine (HS _ (by assumption)).mono ?_; rintro e w' ⟨rfl, hb⟩)
        | (go_at_call 9; refine (HO _ (by assumption)).mono ?_; rintro e w' ⟨rfl, hb⟩)
        | (go_at_call 11; refine (HF _ (by assumption)).mono ?_; rintro e w' ⟨rfl, hb⟩)
        | (go_at_call 49; refine (HT _ (by assumption)).mono ?_; rintro e w' ⟨rfl, hb⟩)
        | (go_at_call 31; refine (HH _ (by assumption)).mono ?_; rintro e w' ⟨rfl, hb⟩))
      go_ret
      refine ⟨ret_bool (isw_of ?_), by assumption⟩
      rw [HI.out]
      have h0 := H0.out
      have h1 := H1.out
      simp
      try omega
  · have b0 : (v % 128 != 51) = true := by simp [h0]
    have H0 := Lib.hid h0
    clear h0
    go_enter Tryd.func28, Tryd.ntmps28
    go_wp2_with (first
      | (go_at_call 19; refine (HS _ (by assumption)).mono ?_; rintro e w' ⟨rfl, hb⟩)
      | (go_at_call 9; refine (HO _ (by assumption)).mono ?_; rintro e w' ⟨rfl, hb⟩)
      | (go_at_call 11; refine (HF _ (by assumption)).mono ?_; rintro e w' ⟨rfl, hb⟩)
      | (go_at_call 49; refine (HT _ (by assumption)).mono ?_; rintro e w' ⟨rfl, hb⟩)
      | (go_at_call 31; refine (HH _ (by assumption)).mono ?_; rintro e w' ⟨rfl, hb⟩))
    go_ret
    refine ⟨ret_bool (isw_of ?_), by assumption⟩
    rw [HI.out]
    have h0 := H0.out
    simp
    try omega
set_option maxRecDepth 100000 in
theorem is_45 : IsAt 45 := by
  intro v w v0 v1
  have HS := fun w1 h => sort_bw w w1 h 45 (by decide) (by decide)
  have HO : ∀ w1, BW w w1 → _ := fun w1 h => (oc_45 w1).mono fun _ _ ⟨he, hb⟩ => And.intro he (BW.on h hb)
  have HF : ∀ w1, BW w w1 → _ := fun w1 h => (fc_45 w1).mono fun _ _ ⟨he, hb⟩ => And.intro he (BW.on h hb)
  have HT : ∀ w1, BW w w1 → _ := fun w1 h => (tu_45 w1).mono fun _ _ ⟨he, hb⟩ => And.intro he (BW.on h hb)
  have HH : ∀ w1, BW w w1 → _ := fun w1 h => (sh_45 w1).mono fun _ _ ⟨he, hb⟩ => And.intro he (BW.on h hb)
  have HV := True.intro
  have HB : BW w w := Below.refl _ _
  rw [show srt 45 = 7 by decide] at HS
  rw [show ocV 45 = 59 by decide] at HO
  rw [show f3V 45 = 0 by decide] at HF
  rw [show turB 45 = false by decide] at HT
  rw [show shV 45 = 0 by decide] at HH

  have HI : Hid (Isw v 45 ↔ v % 128 = 59 ∧ v / 4096 % 8 = 0 ∧ v / 33554432 = 0) := by
    show _ ↔ _
    unfold Isw
    rw [show ocV 45 = 59 by decide, show f3V 45 = 0 by decide, show agV 45 = 0 by decide, show kdV 45 = 2 by decide]
    simp
    try omega
  by_cases h0 : v % 128 = 59
  · have b0 : (v % 128 != 59) = false := by simp [h0]
    have H0 := Lib.hid h0
    clear h0
    by_cases h1 : v / 4096 % 8 = 0
    · have b1 : (v / 4096 % 8 != 0) = false := by simp [h1]
      have H1 := Lib.hid h1
      clear h1
      go_enter Tryd.func28, Tryd.ntmps28
      go_wp2_with (first
        | (go_at_call 19; refine (HS _ (by assumption)).mono ?_; rintro e w' ⟨rfl, hb⟩)
        | (go_at_call 9; refine (HO _ (by assumption)).mono ?_; rintro e w' ⟨rfl, hb⟩)
        | (go_at_call 11; refine (HF _ (by assumption)).mono ?_; rintro e w' ⟨rfl, hb⟩)
        | (go_at_call 49; refine (HT _ (by assumption)).mono ?_; rintro e w' ⟨rfl, hb⟩)
        | (go_at_call 31; refine (HH _ (by assumption)).mono ?_; rintro e w' ⟨rfl, hb⟩))
      go_ret
      refine ⟨ret_bool (isw_of ?_), by assumption⟩
      rw [HI.out]
      have h0 := H0.out
      have h1 := H1.out
      simp
      try omega
    · have b1 : (v / 4096 % 8 != 0) = true := by simp [h1]
      have H1 := Lib.hid h1
      clear h1
      go_enter Tryd.func28, Tryd.ntmps28
      go_wp2_with (first
        | (go_at_call 19; refine (HS _ (by assumption)).mono ?_; rintro e w' ⟨rfl, hb⟩)
        | (go_at_call 9; refine (HO _ (by assumption)).mono ?_; rintro e w' ⟨rfl, hb⟩)
        | (go_at_call 11; refine (HF _ (by assumption)).mono ?_; rintro e w' ⟨rfl, hb⟩)
        | (go_at_call 49; refine (HT _ (by assumption)).mono ?_; rintro e w' ⟨rfl, hb⟩)
        | (go_at_call 31; refine (HH _ (by assumption)).mono ?_; rintro e w' ⟨rfl, hb⟩))
      go_ret
      refine ⟨ret_bool (isw_of ?_), by assumption⟩
      rw [HI.out]
      have h0 := H0.out
      have h1 := H1.out
      simp
      try omega
  · have b0 : (v % 128 != 59) = true := by simp [h0]
    have H0 := Lib.hid h0
    clear h0
    go_enter Tryd.func28, Tryd.ntmps28
    go_wp2_with (first
      | (go_at_call 19; refine (HS _ (by assumption)).mono ?_; rintro e w' ⟨rfl, hb⟩)
      | (go_at_call 9; refine (HO _ (by assumption)).mono ?_; rintro e w' ⟨rfl, hb⟩)
      | (go_at_call 11; refine (HF _ (by assumption)).mono ?_; rintro e w' ⟨rfl, hb⟩)
      | (go_at_call 49; refine (HT _ (by assumption)).mono ?_; rintro e w' ⟨rfl, hb⟩)
      | (go_at_call 31; refine (HH _ (by assumption)).mono ?_; rintro e w' ⟨rfl, hb⟩))
    go_ret
    refine ⟨ret_bool (isw_of ?_), by assumption⟩
    rw [HI.out]
    have h0 := H0.out
    simp
    try omega
set_option maxRecDepth 100000 in
theorem is_46 : IsAt 46 := by
  intro v w v0 v1
  have HS := fun w1 h => sort_bw w w1 h 46 (by decide) (by decide)
  have HO : ∀ w1, BW w w1 → _ := fun w1 h => (oc_46 w1).mono fun _ _ ⟨he, hb⟩ => And.intro he (BW.on h hb)
  have HF : ∀ w1, BW w w1 → _ := fun w1 h => (fc_46 w1).mono fun _ _ ⟨he, hb⟩ => And.intro he (BW.on h hb)
  have HT : ∀ w1, BW w w1 → _ := fun w1 h => (tu_46 w1).mono fun _ _ ⟨he, hb⟩ => And.intro he (BW.on h hb)
  have HH : ∀ w1, BW w w1 → _ := fun w1 h => (sh_46 w1).mono fun _ _ ⟨he, hb⟩ => And.intro he (BW.on h hb)
  have HV := True.intro
  have HB : BW w w := Below.refl _ _
  rw [show srt 46 = 7 by decide] at HS
  rw [show ocV 46 = 59 by decide] at HO
  rw [show f3V 46 = 0 by decide] at HF
  rw [show turB 46 = true by decide] at HT
  rw [show shV 46 = 0 by decide] at HH

  have HI : Hid (Isw v 46 ↔ v % 128 = 59 ∧ v / 4096 % 8 = 0 ∧ v / 33554432 = 32) := by
    show _ ↔ _
    unfold Isw
    rw [show ocV 46 = 59 by decide, show f3V 46 = 0 by decide, show agV 46 = 32 by decide, show kdV 46 = 2 by decide]
    simp
    try omega
  by_cases h0 : v % 128 = 59
  · have b0 : (v % 128 != 59) = false := by simp [h0]
    have H0 := Lib.hid h0
    clear h0
    by_cases h1 : v / 4096 % 8 = 0
    · have b1 : (v / 4096 % 8 != 0) = false := by simp [h1]
      have H1 := Lib.hid h1
      clear h1
      go_enter Tryd.func28, Tryd.ntmps28
      go_wp2_with (first
        | (go_at_call 19; refine (HS _ (by assumption)).mono ?_; rintro e w' ⟨rfl, hb⟩)
        | (go_at_call 9; refine (HO _ (by assumption)).mono ?_; rintro e w' ⟨rfl, hb⟩)
        | (go_at_call 11; refine (HF _ (by assumption)).mono ?_; rintro e w' ⟨rfl, hb⟩)
        | (go_at_call 49; refine (HT _ (by assumption)).mono ?_; rintro e w' ⟨rfl, hb⟩)
        | (go_at_call 31; refine (HH _ (by assumption)).mono ?_; rintro e w' ⟨rfl, hb⟩))
      go_ret
      refine ⟨ret_bool (isw_of ?_), by assumption⟩
      rw [HI.out]
      have h0 := H0.out
      have h1 := H1.out
      simp
      try omega
    · have b1 : (v / 4096 % 8 != 0) = true := by simp [h1]
      have H1 := Lib.hid h1
      clear h1
      go_enter Tryd.func28, Tryd.ntmps28
      go_wp2_with (first
        | (go_at_call 19; refine (HS _ (by assumption)).mono ?_; rintro e w' ⟨rfl, hb⟩)
        | (go_at_call 9; refine (HO _ (by assumption)).mono ?_; rintro e w' ⟨rfl, hb⟩)
        | (go_at_call 11; refine (HF _ (by assumption)).mono ?_; rintro e w' ⟨rfl, hb⟩)
        | (go_at_call 49; refine (HT _ (by assumption)).mono ?_; rintro e w' ⟨rfl, hb⟩)
        | (go_at_call 31; refine (HH _ (by assumption)).mono ?_; rintro e w' ⟨rfl, hb⟩))
      go_ret
      refine ⟨ret_bool (isw_of ?_), by assumption⟩
      rw [HI.out]
      have h0 := H0.out
      have h1 := H1.out
      simp
      try omega
  · have b0 : (v % 128 != 59) = true := by simp [h0]
    have H0 := Lib.hid h0
    clear h0
    go_enter Tryd.func28, Tryd.ntmps28
    go_wp2_with (first
      | (go_at_call 19; refine (HS _ (by assumption)).mono ?_; rintro e w' ⟨rfl, hb⟩)
      | (go_at_call 9; refine (HO _ (by assumption)).mono ?_; rintro e w' ⟨rfl, hb⟩)
      | (go_at_call 11; refine (HF _ (by assumption)).mono ?_; rintro e w' ⟨rfl, hb⟩)
      | (go_at_call 49; refine (HT _ (by assumption)).mono ?_; rintro e w' ⟨rfl, hb⟩)
      | (go_at_call 31; refine (HH _ (by assumption)).mono ?_; rintro e w' ⟨rfl, hb⟩))
    go_ret
    refine ⟨ret_bool (isw_of ?_), by assumption⟩
    rw [HI.out]
    have h0 := H0.out
    simp
    try omega
set_option maxRecDepth 100000 in
theorem is_47 : IsAt 47 := by
  intro v w v0 v1
  have HS := fun w1 h => sort_bw w w1 h 47 (by decide) (by decide)
  have HO : ∀ w1, BW w w1 → _ := fun w1 h => (oc_47 w1).mono fun _ _ ⟨he, hb⟩ => And.intro he (BW.on h hb)
  have HF : ∀ w1, BW w w1 → _ := fun w1 h => (fc_47 w1).mono fun _ _ ⟨he, hb⟩ => And.intro he (BW.on h hb)
  have HT : ∀ w1, BW w w1 → _ := fun w1 h => (tu_47 w1).mono fun _ _ ⟨he, hb⟩ => And.intro he (BW.on h hb)
  have HH : ∀ w1, BW w w1 → _ := fun w1 h => (sh_47 w1).mono fun _ _ ⟨he, hb⟩ => And.intro he (BW.on h hb)
  have HV := True.intro
  have HB : BW w w := Below.refl _ _
  rw [show srt 47 = 7 by decide] at HS
  rw [show ocV 47 = 59 by decide] at HO
  rw [show f3V 47 = 1 by decide] at HF
  rw [show turB 47 = false by decide] at HT
  rw [show shV 47 = 0 by decide] at HH

  have HI : Hid (Isw v 47 ↔ v % 128 = 59 ∧ v / 4096 % 8 = 1 ∧ v / 33554432 = 0) := by
    show _ ↔ _
    unfold Isw
    rw [show ocV 47 = 59 by decide, show f3V 47 = 1 by decide, show agV 47 = 0 by decide, show kdV 47 = 2 by decide]
    simp
    try omega
  by_cases h0 : v % 128 = 59
  · have b0 : (v % 128 != 59) = false := by simp [h0]
    have H0 := Lib.hid h0
    clear h0
    by_cases h1 : v / 4096 % 8 = 1
    · have b1 : (v / 4096 % 8 != 1) = false := by simp [h1]
      have H1 := Lib.hid h1
      clear h1
      go_enter Tryd.func28, Tryd.ntmps28
      go_wp2_with (first
        | (go_at_call 19; refine (HS _ (by assumption)).mono ?_; rintro e w' ⟨rfl, hb⟩)
        | (go_at_call 9; refine (HO _ (by assumption)).mono ?_; rintro e w' ⟨rfl, hb⟩)
        | (go_at_call 11; refine (HF _ (by assumption)).mono ?_; rintro e w' ⟨rfl, hb⟩)
        | (go_at_call 49; refine (HT _ (by assumption)).mono ?_; rintro e w' ⟨rfl, hb⟩)
        | (go_at_call 31; refine (HH _ (by assumption)).mono ?_; rintro e w' ⟨rfl, hb⟩))
      go_ret
      refine ⟨ret_bool (isw_of ?_), by assumption⟩
      rw [HI.out]
      have h0 := H0.out
      have h1 := H1.out
      simp
      try omega
    · have b1 : (v / 4096 % 8 != 1) = true := by simp [h1]
      have H1 := Lib.hid h1
      clear h1
      go_enter Tryd.func28, Tryd.ntmps28
      go_wp2_with (first
        | (go_at_call 19; refine (HS _ (by assumption)).mono ?_; rintro e w' ⟨rfl, hb⟩)
        | (go_at_call 9; refine (HO _ (by assumption)).mono ?_; rintro e w' ⟨rfl, hb⟩)
        | (go_at_call 11; refine (HF _ (by assumption)).mono ?_; rintro e w' ⟨rfl, hb⟩)
        | (go_at_call 49; refine (HT _ (by assumption)).mono ?_; rintro e w' ⟨rfl, hb⟩)
        | (go_at_call 31; refine (HH _ (by assumption)).mono ?_; rintro e w' ⟨rfl, hb⟩))
      go_ret
      refine ⟨ret_bool (isw_of ?_), by assumption⟩
      rw [HI.out]
      have h0 := H0.out
      have h1 := H1.out
      simp
      try omega
  · have b0 : (v % 128 != 59) = true := by simp [h0]
    have H0 := Lib.hid h0
    clear h0
    go_enter Tryd.func28, Tryd.ntmps28
    go_wp2_with (first
      | (go_at_call 19; refine (HS _ (by assumption)).mono ?_; rintro e w' ⟨rfl, hb⟩)
      | (go_at_call 9; refine (HO _ (by assumption)).mono ?_; rintro e w' ⟨rfl, hb⟩)
      | (go_at_call 11; refine (HF _ (by assumption)).mono ?_; rintro e w' ⟨rfl, hb⟩)
      | (go_at_call 49; refine (HT _ (by assumption)).mono ?_; rintro e w' ⟨rfl, hb⟩)
      | (go_at_call 31; refine (HH _ (by assumption)).mono ?_; rintro e w' ⟨rfl, hb⟩))
    go_ret
    refine ⟨ret_bool (isw_of ?_), by assumption⟩
    rw [HI.out]
    have h0 := H0.out
    simp
    try omega
set_option maxRecDepth 100000 in
theorem is_48 : IsAt 48 := by
  intro v w v0 v1
  have HS := fun w1 h => sort_bw w w1 h 48 (by decide) (by decide)
  have HO : ∀ w1, BW w w1 → _ := fun w1 h => (oc_48 w1).mono fun _ _ ⟨he, hb⟩ => And.intro he (BW.on h hb)
  have HF : ∀ w1, BW w w1 → _ := fun w1 h => (fc_48 w1).mono fun _ _ ⟨he, hb⟩ => And.intro he (BW.on h hb)
  have HT : ∀ w1, BW w w1 → _ := fun w1 h => (tu_48 w1).mono fun _ _ ⟨he, hb⟩ => And.intro he (BW.on h hb)
  have HH : ∀ w1, BW w w1 → _ := fun w1 h => (sh_48 w1).mono fun _ _ ⟨he, hb⟩ => And.intro he (BW.on h hb)
  have HV := True.intro
  have HB : BW w w := Below.refl _ _
  rw [show srt 48 = 7 by decide] at HS
  rw [show ocV 48 = 59 by decide] at HO
  rw [show f3V 48 = 5 by decide] at HF
  rw [show turB 48 = false by decide] at HT
  rw [show shV 48 = 0 by decide] at HH

  have HI : Hid (Isw v 48 ↔ v % 128 = 59 ∧ v / 4096 % 8 = 5 ∧ v / 33554432 = 0) := by
    show _ ↔ _
    unfold Isw
    rw [show ocV 48 = 59 by decide, show f3V 48 = 5 by decide, show agV 48 = 0 by decide, show kdV 48 = 2 by decide]
    simp
    try omega
  by_cases h0 : v % 128 = 59
  · have b0 : (v % 128 != 59) = false := by simp [h0]
    have H0 := Lib.hid h0
    clear h0
    by_cases h1 : v / 4096 % 8 = 5
    · have b1 : (v / 4096 % 8 != 5) = false := by simp [h1]
      have H1 := Lib.hid h1
      clear h1
      go_enter Tryd.func28, Tryd.ntmps28
      go_wp2_with (first
        | (go_at_call 19; refine (HS _ (by assumption)).mono ?_; rintro e w' ⟨rfl, hb⟩)
        | (go_at_call 9; refine (HO _ (by assumption)).mono ?_; rintro e w' ⟨rfl, hb⟩)
        | (go_at_call 11; refine (HF _ (by assumption)).mono ?_; rintro e w' ⟨rfl, hb⟩)
        | (go_at_call 49; refine (HT _ (by assumption)).mono ?_; rintro e w' ⟨rfl, hb⟩)
        | (go_at_call 31; refine (HH _ (by assumption)).mono ?_; rintro e w' ⟨rfl, hb⟩))
      go_ret
      refine ⟨ret_bool (isw_of ?_), by assumption⟩
      rw [HI.out]
      have h0 := H0.out
      have h1 := H1.out
      simp
      try omega
    · have b1 : (v / 4096 % 8 != 5) = true := by simp [h1]
      have H1 := Lib.hid h1
      clear h1
      go_enter Tryd.func28, Tryd.ntmps28
      go_wp2_with (first
        | (go_at_call 19; refine (HS _ (by assumption)).mono ?_; rintro e w' ⟨rfl, hb⟩)
        | (go_at_call 9; refine (HO _ (by assumption)).mono ?_; rintro e w' ⟨rfl, hb⟩)
        | (go_at_call 11; refine (HF _ (by assumption)).mono ?_; rintro e w' ⟨rfl, hb⟩)
        | (go_at_call 49; refine (HT _ (by assumption)).mono ?_; rintro e w' ⟨rfl, hb⟩)
        | (go_at_call 31; refine (HH _ (by assumption)).mono ?_; rintro e w' ⟨rfl, hb⟩))
      go_ret
      refine ⟨ret_bool (isw_of ?_), by assumption⟩
      rw [HI.out]
      have h0 := H0.out
      have h1 := H1.out
      simp
      try omega
  · have b0 : (v % 128 != 59) = true := by simp [h0]
    have H0 := Lib.hid h0
    clear h0
    go_enter Tryd.func28, Tryd.ntmps28
    go_wp2_with (first
      | (go_at_call 19; refine (HS _ (by assumption)).mono ?_; rintro e w' ⟨rfl, hb⟩)
      | (go_at_call 9; refine (HO _ (by assumption)).mono ?_; rintro e w' ⟨rfl, hb⟩)
      | (go_at_call 11; refine (HF _ (by assumption)).mono ?_; rintro e w' ⟨rfl, hb⟩)
      | (go_at_call 49; refine (HT _ (by assumption)).mono ?_; rintro e w' ⟨rfl, hb⟩)
      | (go_at_call 31; refine (HH _ (by assumption)).mono ?_; rintro e w' ⟨rfl, hb⟩))
    go_ret
    refine ⟨ret_bool (isw_of ?_), by assumption⟩
    rw [HI.out]
    have h0 := H0.out
    simp
    try omega
set_option maxRecDepth 100000 in
theorem is_49 : IsAt 49 := by
  intro v w v0 v1
  have HS := fun w1 h => sort_bw w w1 h 49 (by decide) (by decide)
  have HO : ∀ w1, BW w w1 → _ := fun w1 h => (oc_49 w1).mono fun _ _ ⟨he, hb⟩ => And.intro he (BW.on h hb)
  have HF : ∀ w1, BW w w1 → _ := fun w1 h => (fc_49 w1).mono fun _ _ ⟨he, hb⟩ => And.intro he (BW.on h hb)
  have HT : ∀ w1, BW w w1 → _ := fun w1 h => (tu_49 w1).mono fun _ _ ⟨he, hb⟩ => And.intro he (BW.on h hb)
  have HH : ∀ w1, BW w w1 → _ := fun w1 h => (sh_49 w1).mono fun _ _ ⟨he, hb⟩ => And.intro he (BW.on h hb)
  have HV := True.intro
  have HB : BW w w := Below.refl _ _
  rw [show srt 49 = 7 by decide] at HS
  rw [show ocV 49 = 59 by decide] at HO
  rw [show f3V 49 = 5 by decide] at HF
  rw [show turB 49 = true by decide] at HT
  rw [show shV 49 = 0 by decide] at HH

  have HI : Hid (Isw v 49 ↔ v % 128 = 59 ∧ v / 4096 % 8 = 5 ∧ v / 33554432 = 32) := by
    show _ ↔ _
    unfold Isw
    rw [show ocV 49 = 59 by decide, show f3V 49 = 5 by decide, show agV 49 = 32 by decide, show kdV 49 = 2 by decide]
    simp
    try omega
  by_cases h0 : v % 128 = 59
  · have b0 : (v % 128 != 59) = false := by simp [h0]
    have H0 := Lib.hid h0
    clear h0
    by_cases h1 : v / 4096 % 8 = 5
    · have b1 : (v / 4096 % 8 != 5) = false := by simp [h1]
      have H1 := Lib.hid h1
      clear h1
      go_enter Tryd.func28, Tryd.ntmps28
      go_wp2_with (first
        | (go_at_call 19; refine (HS _ (by assumption)).mono ?_; rintro e w' ⟨rfl, hb⟩)
        | (go_at_call 9; refine (HO _ (by assumption)).mono ?_; rintro e w' ⟨rfl, hb⟩)
        | (go_at_call 11; refine (HF _ (by assumption)).mono ?_; rintro e w' ⟨rfl, hb⟩)
        | (go_at_call 49; refine (HT _ (by assumption)).mono ?_; rintro e w' ⟨rfl, hb⟩)
        | (go_at_call 31; refine (HH _ (by assumption)).mono ?_; rintro e w' ⟨rfl, hb⟩))
      go_ret
      refine ⟨ret_bool (isw_of ?_), by assumption⟩
      rw [HI.out]
      have h0 := H0.out
      have h1 := H1.out
      simp
      try omega
    · have b1 : (v / 4096 % 8 != 5) = true := by simp [h1]
      have H1 := Lib.hid h1
      clear h1
      go_enter Tryd.func28, Tryd.ntmps28
      go_wp2_with (first
        | (go_at_call 19; refine (HS _ (by assumption)).mono ?_; rintro e w' ⟨rfl, hb⟩)
        | (go_at_call 9; refine (HO _ (by assumption)).mono ?_; rintro e w' ⟨rfl, hb⟩)
        | (go_at_call 11; refine (HF _ (by assumption)).mono ?_; rintro e w' ⟨rfl, hb⟩)
        | (go_at_call 49; refine (HT _ (by assumption)).mono ?_; rintro e w' ⟨rfl, hb⟩)
        | (go_at_call 31; refine (HH _ (by assumption)).mono ?_; rintro e w' ⟨rfl, hb⟩))
      go_ret
      refine ⟨ret_bool (isw_of ?_), by assumption⟩
      rw [HI.out]
      have h0 := H0.out
      have h1 := H1.out
      simp
      try omega
  · have b0 : (v % 128 != 59) = true := by simp [h0]
    have H0 := Lib.hid h0
    clear h0
    go_enter Tryd.func28, Tryd.ntmps28
    go_wp2_with (first
      | (go_at_call 19; refine (HS _ (by assumption)).mono ?_; rintro e w' ⟨rfl, hb⟩)
      | (go_at_call 9; refine (HO _ (by assumption)).mono ?_; rintro e w' ⟨rfl, hb⟩)
      | (go_at_call 11; refine (HF _ (by assumption)).mono ?_; rintro e w' ⟨rfl, hb⟩)
      | (go_at_call 49; refine (HT _ (by assumption)).mono ?_; rintro e w' ⟨rfl, hb⟩)
      | (go_at_call 31; refine (HH _ (by assumption)).mono ?_; rintro e w' ⟨rfl, hb⟩))
    go_ret
    refine ⟨ret_bool (isw_of ?_), by assumption⟩
    rw [HI.out]
    have h0 := H0.out
    simp
    try omega
set_option maxRecDepth 100000 in
theorem is_50 : IsAt 50 := by
  intro v w v0 v1
  have HS := fun w1 h => sort_bw w w1 h 50 (by decide) (by decide)
  have HO : ∀ w1, BW w w1 → _ := fun w1 h => (oc_50 w1).mono fun _ _ ⟨he, hb⟩ => And.intro he (BW.on h hb)
  have HF : ∀ w1, BW w w1 → _ := fun w1 h => (fc_50 w1).mono fun _ _ ⟨he, hb⟩ => And.intro he (BW.on h hb)
  have HT : ∀ w1, BW w w1 → _ := fun w1 h => (tu_50 w1).mono fun _ _ ⟨he, hb⟩ => And.intro he (BW.on h hb)
  have HH : ∀ w1, BW w w1 → _ := fun w1 h => (sh_50 w1).mono fun _ _ ⟨he, hb⟩ => And.intro he (BW.on h hb)
  have HV := True.intro
  have HB : BW w w := Below.refl _ _
  rw [show srt 50 = 8 by decide] at HS
  rw [show ocV 50 = 15 by decide] at HO
  rw [show f3V 50 = 0 by decide] at HF
  rw [show turB 50 = false by decide] at HT
  rw [show shV 50 = 0 by decide] at HH

  have HI : Hid (Isw v 50 ↔ v % 128 = 15 ∧ v / 4096 % 8 = 0 ∧ v / 1048576 ≠ 2099) := by
    show _ ↔ _
    unfold Isw
    rw [show ocV 50 = 15 by decide, show f3V 50 = 0 by decide, show agV 50 = 0 by decide, show kdV 50 = 6 by decide]
    simp
    try omega
  by_cases h0 : v % 128 = 15
  · have b0 : (v % 128 != 15) = false := by simp [h0]
    have H0 := Lib.hid h0
    clear h0
    by_cases h1 : v / 4096 % 8 = 0
    · have b1 : (v / 4096 % 8 == 0) = true := by simp [h1]
      have H1 := Lib.hid h1
      clear h1
      by_cases h2 : v / 1048576 = 2099
      · have b2 : (v / 1048576 == 2099) = true := by simp [h2]
        have H2 := Lib.hid h2
        clear h2
        go_enter Tryd.func28, Tryd.ntmps28
        go_wp2_with (first
          | (go_at_call 19; refine (HS _ (by assumption)).mono ?_; rintro e w' ⟨rfl, hb⟩)
          | (go_at_call 9; refine (HO _ (by assumption)).mono ?_; rintro e w' ⟨rfl, hb⟩)
          | (go_at_call 11; refine (HF _ (by assumption)).mono ?_; rintro e w' ⟨rfl, hb⟩)
          | (go_at_call 49; refine (HT _ (by assumption)).mono ?_; rintro e w' ⟨rfl, hb⟩)
          | (go_at_call 31; refine (HH _ (by assumption)).mono ?_; rintro e w' ⟨rfl, hb⟩))
        go_ret
        refine ⟨ret_bool (isw_of ?_), by assumption⟩
        rw [HI.out]
        have h0 := H0.out
        have h1 := H1.out
        have h2 := H2.out
        simp
        try omega
      · have b2 : (v / 1048576 == 2099) = false := by simp [h2]
        have H2 := Lib.hid h2
        clear h2
        go_enter Tryd.func28, Tryd.ntmps28
        go_wp2_with (first
          | (go_at_call 19; refine (HS _ (by assumption)).mono ?_; rintro e w' ⟨rfl, hb⟩)
          | (go_at_call 9; refine (HO _ (by assumption)).mono ?_; rintro e w' ⟨rfl, hb⟩)
          | (go_at_call 11; refine (HF _ (by assumption)).mono ?_; rintro e w' ⟨rfl, hb⟩)
          | (go_at_call 49; refine (HT _ (by assumption)).mono ?_; rintro e w' ⟨rfl, hb⟩)
          | (go_at_call 31; refine (HH _ (by assumption)).mono ?_; rintro e w' ⟨rfl, hb⟩))
        go_ret
        refine ⟨ret_bool (isw_of ?_), by assumption⟩
        rw [HI.out]
        have h0 := H0.out
        have h1 := H1.out
        have h2 := H2.out
        simp
        try omega
    · have b1 : (v / 4096 % 8 == 0) = false := by simp [h1]
      have H1 := Lib.hid h1
      clear h1
      go_enter Tryd.func28, Tryd.ntmps28
      go_wp2_with (first
        | (go_at_call 19; refine (HS _ (by assumption)).mono ?_; rintro e w' ⟨rfl, hb⟩)
        | (go_at_call 9; refine (HO _ (by assumption)).mono ?_; rintro e w' ⟨rfl, hb⟩)
        | (go_at_call 11; refine (HF _ (by assumption)).mono ?_; rintro e w' ⟨rfl, hb⟩)
        | (go_at_call 49; refine (HT _ (by assumption)).mono ?_; rintro e w' ⟨rfl, hb⟩)
        | (go_at_call 31; refine (HH _ (by assumption)).mono ?_; rintro e w' ⟨rfl, hb⟩))
      go_ret
      refine ⟨ret_bool (isw_of ?_), by assumption⟩
      rw [HI.out]
      have h0 := H0.out
      have h1 := H1.out
      simp
      try omega
  · have b0 : (v % 128 != 15) = true := by simp [h0]
    have H0 := Lib.hid h0
    clear h0
    go_enter Tryd.func28, Tryd.ntmps28
    go_wp2_with (first
      | (go_at_call 19; refine (HS _ (by assumption)).mono ?_; rintro e w' ⟨rfl, hb⟩)
      | (go_at_call 9; refine (HO _ (by assumption)).mono ?_; rintro e w' ⟨rfl, hb⟩)
      | (go_at_call 11; refine (HF _ (by assumption)).mono ?_; rintro e w' ⟨rfl, hb⟩)
      | (go_at_call 49; refine (HT _ (by assumption)).mono ?_; rintro e w' ⟨rfl, hb⟩)
      | (go_at_call 31; refine (HH _ (by assumption)).mono ?_; rintro e w' ⟨rfl, hb⟩))
    go_ret
    refine ⟨ret_bool (isw_of ?_), by assumption⟩
    rw [HI.out]
    have h0 := H0.out
    simp
    try omega
set_option maxRecDepth 100000 in
theorem is_51 : IsAt 51 := by
  intro v w v0 v1
  have HS := fun w1 h => sort_bw w w1 h 51 (by decide) (by decide)
  have HO : ∀ w1, BW w w1 → _ := fun w1 h => (oc_51 w1).mono fun _ _ ⟨he, hb⟩ => And.intro he (BW.on h hb)
  have HF : ∀ w1, BW w w1 → _ := fun w1 h => (fc_51 w1).mono fun _ _ ⟨he, hb⟩ => And.intro he (BW.on h hb)
  have HT : ∀ w1, BW w w1 → _ := fun w1 h => (tu_51 w1).mono fun _ _ ⟨he, hb⟩ => And.intro he (BW.on h hb)
  have HH : ∀ w1, BW w w1 → _ := fun w1 h => (sh_51 w1).mono fun _ _ ⟨he, hb⟩ => And.intro he (BW.on h hb)
  have HV := True.intro
  have HB : BW w w := Below.refl _ _
  rw [show srt 51 = 8 by decide] at HS
  rw [show ocV 51 = 15 by decide] at HO
  rw [show f3V 51 = 0 by decide] at HF
  rw [show turB 51 = false by decide] at HT
  rw [show shV 51 = 0 by decide] at HH

  have HI : Hid (Isw v 51 ↔ v % 128 = 15 ∧ v / 4096 % 8 = 0 ∧ v / 1048576 = 2099) := by
    show _ ↔ _
    unfold Isw
    rw [show ocV 51 = 15 by decide, show f3V 51 = 0 by decide, show agV 51 = 0 by decide, show kdV 51 = 7 by decide]
    simp
    try omega
  by_cases h0 : v % 128 = 15
  · have b0 : (v % 128 != 15) = false := by simp [h0]
    have H0 := Lib.hid h0
    clear h0
    by_cases h1 : v / 4096 % 8 = 0
    · have b1 : (v / 4096 % 8 == 0) = true := by simp [h1]
      have H1 := Lib.hid h1
      clear h1
      by_cases h2 : v / 1048576 = 2099
      · have b2 : (v / 1048576 == 2099) = true := by simp [h2]
        have H2 := Lib.hid h2
        clear h2
        go_enter Tryd.func28, Tryd.ntmps28
        go_wp2_with (first
          | (go_at_call 19; refine (HS _ (by assumption)).mono ?_; rintro e w' ⟨rfl, hb⟩)
          | (go_at_call 9; refine (HO _ (by assumption)).mono ?_; rintro e w' ⟨rfl, hb⟩)
          | (go_at_call 11; refine (HF _ (by assumption)).mono ?_; rintro e w' ⟨rfl, hb⟩)
          | (go_at_call 49; refine (HT _ (by assumption)).mono ?_; rintro e w' ⟨rfl, hb⟩)
          | (go_at_call 31; refine (HH _ (by assumption)).mono ?_; rintro e w' ⟨rfl, hb⟩))
        go_ret
        refine ⟨ret_bool (isw_of ?_), by assumption⟩
        rw [HI.out]
        have h0 := H0.out
        have h1 := H1.out
        have h2 := H2.out
        simp
        try omega
      · have b2 : (v / 1048576 == 2099) = false := by simp [h2]
        have H2 := Lib.hid h2
        clear h2
        go_enter Tryd.func28, Tryd.ntmps28
        go_wp2_with (first
          | (go_at_call 19; refine (HS _ (by assumption)).mono ?_; rintro e w' ⟨rfl, hb⟩)
          | (go_at_call 9; refine (HO _ (by assumption)).mono ?_; rintro e w' ⟨rfl, hb⟩)
          | (go_at_call 11; refine (HF _ (by assumption)).mono ?_; rintro e w' ⟨rfl, hb⟩)
          | (go_at_call 49; refine (HT _ (by assumption)).mono ?_; rintro e w' ⟨rfl, hb⟩)
          | (go_at_call 31; refine (HH _ (by assumption)).mono ?_; rintro e w' ⟨rfl, hb⟩))
        go_ret
        refine ⟨ret_bool (isw_of ?_), by assumption⟩
        rw [HI.out]
        have h0 := H0.out
        have h1 := H1.out
        have h2 := H2.out
        simp
        try omega
    · have b1 : (v / 4096 % 8 == 0) = false := by simp [h1]
      have H1 := Lib.hid h1
      clear h1
      go_enter Tryd.func28, Tryd.ntmps28
      go_wp2_with (first
        | (go_at_call 19; refine (HS _ (by assumption)).mono ?_; rintro e w' ⟨rfl, hb⟩)
        | (go_at_call 9; refine (HO _ (by assumption)).mono ?_; rintro e w' ⟨rfl, hb⟩)
        | (go_at_call 11; refine (HF _ (by assumption)).mono ?_; rintro e w' ⟨rfl, hb⟩)
        | (go_at_call 49; refine (HT _ (by assumption)).mono ?_; rintro e w' ⟨rfl, hb⟩)
        | (go_at_call 31; refine (HH _ (by assumption)).mono ?_; rintro e w' ⟨rfl, hb⟩))
      go_ret
      refine ⟨ret_bool (isw_of ?_), by assumption⟩
      rw [HI.out]
      have h0 := H0.out
      have h1 := H1.out
      simp
      try omega
  · have b0 : (v % 128 != 15) = true := by simp [h0]
    have H0 := Lib.hid h0
    clear h0
    go_enter Tryd.func28, Tryd.ntmps28
    go_wp2_with (first
      | (go_at_call 19; refine (HS _ (by assumption)).mono ?_; rintro e w' ⟨rfl, hb⟩)
      | (go_at_call 9; refine (HO _ (by assumption)).mono ?_; rintro e w' ⟨rfl, hb⟩)
      | (go_at_call 11; refine (HF _ (by assumption)).mono ?_; rintro e w' ⟨rfl, hb⟩)
      | (go_at_call 49; refine (HT _ (by assumption)).mono ?_; rintro e w' ⟨rfl, hb⟩)
      | (go_at_call 31; refine (HH _ (by assumption)).mono ?_; rintro e w' ⟨rfl, hb⟩))
    go_ret
    refine ⟨ret_bool (isw_of ?_), by assumption⟩
    rw [HI.out]
    have h0 := H0.out
    simp
    try omega
set_option maxRecDepth 100000 in
theorem is_52 : IsAt 52 := by
  intro v w v0 v1
  have HS := fun w1 h => sort_bw w w1 h 52 (by decide) (by decide)
  have HO : ∀ w1, BW w w1 → _ := fun w1 h => (oc_52 w1).mono fun _ _ ⟨he, hb⟩ => And.intro he (BW.on h hb)
  have HF : ∀ w1, BW w w1 → _ := fun w1 h => (fc_52 w1).mono fun _ _ ⟨he, hb⟩ => And.intro he (BW.on h hb)
  have HT : ∀ w1, BW w w1 → _ := fun w1 h => (tu_52 w1).mono fun _ _ ⟨he, hb⟩ => And.intro he (BW.on h hb)
  have HH : ∀ w1, BW w w1 → _ := fun w1 h => (sh_52 w1).mono fun _ _ ⟨he, hb⟩ => And.intro he (BW.on h hb)
  have HV := True.intro
  have HB : BW w w := Below.refl _ _
  rw [show srt 52 = 9 by decide] at HS
  rw [show ocV 52 = 115 by decide] at HO
  rw [show f3V 52 = 0 by decide] at HF
  rw [show turB 52 = false by decide] at HT
  rw [show shV 52 = 0 by decide] at HH

  have HI : Hid (Isw v 52 ↔ v % 128 = 115 ∧ v = 115) := by
    show _ ↔ _
    unfold Isw
    rw [show ocV 52 = 115 by decide, show f3V 52 = 0 by decide, show agV 52 = 0 by decide, show kdV 52 = 8 by decide]
    simp
    try omega
  by_cases h0 : v % 128 = 115
  · have b0 : (v % 128 != 115) = false := by simp [h0]
    have H0 := Lib.hid h0
    clear h0
    by_cases h1 : v = 115
    · have b1 : (v == 115) = true := by simp [h1]
      have H1 := Lib.hid h1
      clear h1
      by_cases h2 : v = 1048691
      · have b2 : (v == 1048691) = true := by simp [h2]
        have H2 := Lib.hid h2
        clear h2
        go_enter Tryd.func28, Tryd.ntmps28
        go_wp2_with (first
          | (go_at_call 19; refine (HS _ (by assumption)).mono ?_; rintro e w' ⟨rfl, hb⟩)
          | (go_at_call 9; refine (HO _ (by assumption)).mono ?_; rintro e w' ⟨rfl, hb⟩)
          | (go_at_call 11; refine (HF _ (by assumption)).mono ?_; rintro e w' ⟨rfl, hb⟩)
          | (go_at_call 49; refine (HT _ (by assumption)).mono ?_; rintro e w' ⟨rfl, hb⟩)
          | (go_at_call 31; refine (HH _ (by assumption)).mono ?_; rintro e w' ⟨rfl, hb⟩))
        go_ret
        refine ⟨ret_bool (isw_of ?_), by assumption⟩
        rw [HI.out]
        have h0 := H0.out
        have h1 := H1.out
        have h2 := H2.out
        simp
        try omega
      · have b2 : (v == 1048691) = false := by simp [h2]
        have H2 := Lib.hid h2
        clear h2
        go_enter Tryd.func28, Tryd.ntmps28
        go_wp2_with (first
          | (go_at_call 19; refine (HS _ (by assumption)).mono ?_; rintro e w' ⟨rfl, hb⟩)
          | (go_at_call 9; refine (HO _ (by assumption)).mono ?_; rintro e w' ⟨rfl, hb⟩)
          | (go_at_call 11; refine (HF _ (by assumption)).mono ?_; rintro e w' ⟨rfl, hb⟩)
          | (go_at_call 49; refine (HT _ (by assumption)).mono ?_; rintro e w' ⟨rfl, hb⟩)
          | (go_at_call 31; refine (HH _ (by assumption)).mono ?_; rintro e w' ⟨rfl, hb⟩))
        go_ret
        refine ⟨ret_bool (isw_of ?_), by assumption⟩
        rw [HI.out]
        have h0 := H0.out
        have h1 := H1.out
        have h2 := H2.out
        simp
        try omega
    · have b1 : (v == 115) = false := by simp [h1]
      have H1 := Lib.hid h1
      clear h1
      by_cases h2 : v = 1048691
      · have b2 : (v == 1048691) = true := by simp [h2]
        have H2 := Lib.hid h2
        clear h2
        go_enter Tryd.func28, Tryd.ntmps28
        go_wp2_with (first
          | (go_at_call 19; refine (HS _ (by assumption)).mono ?_; rintro e w' ⟨rfl, hb⟩)
          | (go_at_call 9; refine (HO _ (by assumption)).mono ?_; rintro e w' ⟨rfl, hb⟩)
          | (go_at_call 11; refine (HF _ (by assumption)).mono ?_; rintro e w' ⟨rfl, hb⟩)
          | (go_at_call 49; refine (HT _ (by assumption)).mono ?_; rintro e w' ⟨rfl, hb⟩)
          | (go_at_call 31; refine (HH _ (by assumption)).mono ?_; rintro e w' ⟨rfl, hb⟩))
        go_ret
        refine ⟨ret_bool (isw_of ?_), by assumption⟩
        rw [HI.out]
        have h0 := H0.out
        have h1 := H1.out
        have h2 := H2.out
        simp
        try omega
      · have b2 : (v == 1048691) = false := by simp [h2]
        have H2 := Lib.hid h2
        clear h2
        go_enter Tryd.func28, Tryd.ntmps28
        go_wp2_with (first
          | (go_at_call 19; refine (HS _ (by assumption)).mono ?_; rintro e w' ⟨rfl, hb⟩)
          | (go_at_call 9; refine (HO _ (by assumption)).mono ?_; rintro e w' ⟨rfl, hb⟩)
          | (go_at_call 11; refine (HF _ (by assumption)).mono ?_; rintro e w' ⟨rfl, hb⟩)
          | (go_at_call 49; refine (HT _ (by assumption)).mono ?_; rintro e w' ⟨rfl, hb⟩)
          | (go_at_call 31; refine (HH _ (by assumption)).mono ?_; rintro e w' ⟨rfl, hb⟩))
        go_ret
        refine ⟨ret_bool (isw_of ?_), by assumption⟩
        rw [HI.out]
        have h0 := H0.out
        have h1 := H1.out
        have h2 := H2.out
        simp
        try omega
  · have b0 : (v % 128 != 115) = true := by simp [h0]
    have H0 := Lib.hid h0
    clear h0
    go_enter Tryd.func28, Tryd.ntmps28
    go_wp2_with (first
      | (go_at_call 19; refine (HS _ (by assumption)).mono ?_; rintro e w' ⟨rfl, hb⟩)
      | (go_at_call 9; refine (HO _ (by assumption)).mono ?_; rintro e w' ⟨rfl, hb⟩)
      | (go_at_call 11; refine (HF _ (by assumption)).mono ?_; rintro e w' ⟨rfl, hb⟩)
      | (go_at_call 49; refine (HT _ (by assumption)).mono ?_; rintro e w' ⟨rfl, hb⟩)
      | (go_at_call 31; refine (HH _ (by assumption)).mono ?_; rintro e w' ⟨rfl, hb⟩))
    go_ret
    refine ⟨ret_bool (isw_of ?_), by assumption⟩
    rw [HI.out]
    have h0 := H0.out
    simp
    try omega
set_option maxRecDepth 100000 in
theorem is_53 : IsAt 53 := by
  intro v w v0 v1
  have HS := fun w1 h => sort_bw w w1 h 53 (by decide) (by decide)
  have HO : ∀ w1, BW w w1 → _ := fun w1 h => (oc_53 w1).mono fun _ _ ⟨he, hb⟩ => And.intro he (BW.on h hb)
  have HF : ∀ w1, BW w w1 → _ := fun w1 h => (fc_53 w1).mono fun _ _ ⟨he, hb⟩ => And.intro he (BW.on h hb)
  have HT : ∀ w1, BW w w1 → _ := fun w1 h => (tu_53 w1).mono fun _ _ ⟨he, hb⟩ => And.intro he (BW.on h hb)
  have HH : ∀ w1, BW w w1 → _ := fun w1 h => (sh_53 w1).mono fun _ _ ⟨he, hb⟩ => And.intro he (BW.on h hb)
  have HV := True.intro
  have HB : BW w w := Below.refl _ _
  rw [show srt 53 = 9 by decide] at HS
  rw [show ocV 53 = 115 by decide] at HO
  rw [show f3V 53 = 0 by decide] at HF
  rw [show turB 53 = false by decide] at HT
  rw [show shV 53 = 0 by decide] at HH

  have HI : Hid (Isw v 53 ↔ v % 128 = 115 ∧ v = 1048691) := by
    show _ ↔ _
    unfold Isw
    rw [show ocV 53 = 115 by decide, show f3V 53 = 0 by decide, show agV 53 = 0 by decide, show kdV 53 = 9 by decide]
    simp
    try omega
  by_cases h0 : v % 128 = 115
  · have b0 : (v % 128 != 115) = false := by simp [h0]
    have H0 := Lib.hid h0
    clear h0
    by_cases h1 : v = 115
    · have b1 : (v == 115) = true := by simp [h1]
      have H1 := Lib.hid h1
      clear h1
      by_cases h2 : v = 1048691
      · have b2 : (v == 1048691) = true := by simp [h2]
        have H2 := Lib.hid h2
        clear h2
        go_enter Tryd.func28, Tryd.ntmps28
        go_wp2_with (first
          | (go_at_call 19; refine (HS _ (by assumption)).mono ?_; rintro e w' ⟨rfl, hb⟩)
          | (go_at_call 9; refine (HO _ (by assumption)).mono ?_; rintro e w' ⟨rfl, hb⟩)
          | (go_at_call 11; refine (HF _ (by assumption)).mono ?_; rintro e w' ⟨rfl, hb⟩)
          | (go_at_call 49; refine (HT _ (by assumption)).mono ?_; rintro e w' ⟨rfl, hb⟩)
          | (go_at_call 31; refine (HH _ (by assumption)).mono ?_; rintro e w' ⟨rfl, hb⟩))
        go_ret
        refine ⟨ret_bool (isw_of ?_), by assumption⟩
        rw [HI.out]
        have h0 := H0.out
        have h1 := H1.out
        have h2 := H2.out
        simp
        try omega
      · have b2 : (v == 1048691) = false := by simp [h2]
        have H2 := Lib.hid h2
        clear h2
        go_enter Tryd.func28, Tryd.ntmps28
        go_wp2_with (first
          | (go_at_call 19; refine (HS _ (by assumption)).mono ?_; rintro e w' ⟨rfl, hb⟩)
          | (go_at_call 9; refine (HO _ (by assumption)).mono ?_; rintro e w' ⟨rfl, hb⟩)
          | (go_at_call 11; refine (HF _ (by assumption)).mono ?_; rintro e w' ⟨rfl, hb⟩)
          | (go_at_call 49; refine (HT _ (by assumption)).mono ?_; rintro e w' ⟨rfl, hb⟩)
          | (go_at_call 31; refine (HH _ (by assumption)).mono ?_; rintro e w' ⟨rfl, hb⟩))
        go_ret
        refine ⟨ret_bool (isw_of ?_), by assumption⟩
        rw [HI.out]
        have h0 := H0.out
        have h1 := H1.out
        have h2 := H2.out
        simp
        try omega
    · have b1 : (v == 115) = false := by simp [h1]
      have H1 := Lib.hid h1
      clear h1
      by_cases h2 : v = 1048691
      · have b2 : (v == 1048691) = true := by simp [h2]
        have H2 := Lib.hid h2
        clear h2
        go_enter Tryd.func28, Tryd.ntmps28
        go_wp2_with (first
          | (go_at_call 19; refine (HS _ (by assumption)).mono ?_; rintro e w' ⟨rfl, hb⟩)
          | (go_at_call 9; refine (HO _ (by assumption)).mono ?_; rintro e w' ⟨rfl, hb⟩)
          | (go_at_call 11; refine (HF _ (by assumption)).mono ?_; rintro e w' ⟨rfl, hb⟩)
          | (go_at_call 49; refine (HT _ (by assumption)).mono ?_; rintro e w' ⟨rfl, hb⟩)
          | (go_at_call 31; refine (HH _ (by assumption)).mono ?_; rintro e w' ⟨rfl, hb⟩))
        go_ret
        refine ⟨ret_bool (isw_of ?_), by assumption⟩
        rw [HI.out]
        have h0 := H0.out
        have h1 := H1.out
        have h2 := H2.out
        simp
        try omega
      · have b2 : (v == 1048691) = false := by simp [h2]
        have H2 := Lib.hid h2
        clear h2
        go_enter Tryd.func28, Tryd.ntmps28
        go_wp2_with (first
          | (go_at_call 19; refine (HS _ (by assumption)).mono ?_; rintro e w' ⟨rfl, hb⟩)
          | (go_at_call 9; refine (HO _ (by assumption)).mono ?_; rintro e w' ⟨rfl, hb⟩)
          | (go_at_call 11; refine (HF _ (by assumption)).mono ?_; rintro e w' ⟨rfl, hb⟩)
          | (go_at_call 49; refine (HT _ (by assumption)).mono ?_; rintro e w' ⟨rfl, hb⟩)
          | (go_at_call 31; refine (HH _ (by assumption)).mono ?_; rintro e w' ⟨rfl, hb⟩))
        go_ret
        refine ⟨ret_bool (isw_of ?_), by assumption⟩
        rw [HI.out]
        have h0 := H0.out
        have h1 := H1.out
        have h2 := H2.out
        simp
        try omega
  · have b0 : (v % 128 != 115) = true := by simp [h0]
    have H0 := Lib.hid h0
    clear h0
    go_enter Tryd.func28, Tryd.ntmps28
    go_wp2_with (first
      | (go_at_call 19; refine (HS _ (by assumption)).mono ?_; rintro e w' ⟨rfl, hb⟩)
      | (go_at_call 9; refine (HO _ (by assumption)).mono ?_; rintro e w' ⟨rfl, hb⟩)
      | (go_at_call 11; refine (HF _ (by assumption)).mono ?_; rintro e w' ⟨rfl, hb⟩)
      | (go_at_call 49; refine (HT _ (by assumption)).mono ?_; rintro e w' ⟨rfl, hb⟩)
      | (go_at_call 31; refine (HH _ (by assumption)).mono ?_; rintro e w' ⟨rfl, hb⟩))
    go_ret
    refine ⟨ret_bool (isw_of ?_), by assumption⟩
    rw [HI.out]
    have h0 := H0.out
    simp
    try omega
end Go.Proofs.YtbnacdhhacafkaaDoor
