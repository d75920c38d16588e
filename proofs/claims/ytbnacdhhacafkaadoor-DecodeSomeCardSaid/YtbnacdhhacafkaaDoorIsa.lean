/- Whether a word is an operation's: the document's Is, operation by operation. -/
import Derived.Test.YtbnacdhhacafkaaDoorRows
import Derived.Test.YtbnacdhhacafkaaDoorSz
import Derived.Test.YtbnacdhhacafkaaDoorTd
import Derived.Test.YtbnacdhhacafkaaDoorOc
import Derived.Test.YtbnacdhhacafkaaDoorFc
import Derived.Test.YtbnacdhhacafkaaDoorSh
import Derived.Test.YtbnacdhhacafkaaDoorFm
import Derived.Test.YtbnacdhhacafkaaDoorIsd
import Derived.WalkKit
import Derived.WalkLawsBesides
import Derived.Deep.QuietTactic
import Derived.BigQuiet
import Derived.WalkSmall
import Derived.WalkSpells
import Derived.Lib.Hide
import Derived.Below
namespace Go.Proofs.YtbnacdhhacafkaaDoor
open Go.RowKit

set_option maxRecDepth 100000 in
theorem is_1 : IsAt 1 := by
  intro v w v0 v1
  have HS := fun w1 h => sort_bw w w1 h 1 (by decide) (by decide)
  have HO : ∀ w1, BW w w1 → _ := fun w1 h => (oc_1 w1).mono fun _ _ ⟨he, hb⟩ => And.intro he (BW.on h hb)
  have HF : ∀ w1, BW w w1 → _ := fun w1 h => (fc_1 w1).mono fun _ _ ⟨he, hb⟩ => And.intro he (BW.on h hb)
  have HT : ∀ w1, BW w w1 → _ := fun w1 h => (tu_1 w1).mono fun _ _ ⟨he, hb⟩ => And.intro he (BW.on h hb)
  have HH : ∀ w1, BW w w1 → _ := fun w1 h => (sh_1 w1).mono fun _ _ ⟨he, hb⟩ => And.intro he (BW.on h hb)
  have HV := True.intro
  have HB : BW w w := Below.refl _ _
  rw [show srt 1 = 1 by decide] at HS
  rw [show ocV 1 = 55 by decide] at HO
  rw [show f3V 1 = 0 by decide] at HF
  rw [show turB 1 = false by decide] at HT
  rw [show shV 1 = 0 by decide] at HH

  have HI : Hid (Isw v 1 ↔ v % 128 = 55 ∧ True) := by
    show _ ↔ _
    unfold Isw
    rw [show ocV 1 = 55 by decide, show f3V 1 = 0 by decide, show agV 1 = 0 by decide, show kdV 1 = 0 by decide]
    simp
    try omega
  by_cases h0 : v % 128 = 55
  · have b0 : (v % 128 != 55) = false := by simp [h0]
    have H0 := Lib.hid h0
    clear h0
    go_enter Tryd.func28, Tryd.ntmps28
    go_wp2_with (first
      | (go_at_call 19; refine (HS _ (by assumption)).mono ?_; rintro e w' ⟨rfl, hb⟩)
      | (go_at_call 9; refine (HO _ (by assumption)).mono ?_; rintro e w' ⟨rfl, hb⟩)
      | (go_at_call 11; refine (HF _ (by assumption)).mono ?_; rintro e w' ⟨rfl, hb⟩)
      | (go_at_call 49; refine (HT _ (by assumption)).mono ?_; rintro e w' ⟨rfl, hb⟩)
      | (go_at_call 31; refine (HH _ (by assumption)).mono ?_; rintro e w' ⟨rfl, hb⟩))
    go_ret
    refine ⟨ret_bool (isw_of ?_), by assumption⟩
    rw [HI.out]
    have h0 := H0.out
    simp
    try omega
  · have b0 : (v % 128 != 55) = true := by simp [h0]
    have H0 := Lib.hid h0
    clear h0
    go_enter Tryd.func28, Tryd.ntmps28
    go_wp2_with (first
      | (go_at_call 19; refine (HS _ (by assumption)).mono ?_; rintro e w' ⟨rfl, hb⟩)
      | (go_at_call 9; refine (HO _ (by assumption)).mono ?_; rintro e w' ⟨rfl, hb⟩)
      | (go_at_call 11; refine (HF _ (by assumption)).mono ?_; rintro e w' ⟨rfl, hb⟩)
      | (go_at_call 49; refine (HT _ (by assumption)).mono ?_; rintro e w' ⟨rfl, hb⟩)
      | (go_at_call 31; refine (HH _ (by assumption)).mono ?_; rintro e w' ⟨rfl, hb⟩))
    go_ret
    refine ⟨ret_bool (isw_of ?_), by assumption⟩
    rw [HI.out]
    have h0 := H0.out
    simp
    try omega
set_option maxRecDepth 100000 in
theorem is_2 : IsAt 2 := by
  intro v w v0 v1
  have HS := fun w1 h => sort_bw w w1 h 2 (by decide) (by decide)
  have HO : ∀ w1, BW w w1 → _ := fun w1 h => (oc_2 w1).mono fun _ _ ⟨he, hb⟩ => And.intro he (BW.on h hb)
  have HF : ∀ w1, BW w w1 → _ := fun w1 h => (fc_2 w1).mono fun _ _ ⟨he, hb⟩ => And.intro he (BW.on h hb)
  have HT : ∀ w1, BW w w1 → _ := fun w1 h => (tu_2 w1).mono fun _ _ ⟨he, hb⟩ => And.intro he (BW.on h hb)
  have HH : ∀ w1, BW w w1 → _ := fun w1 h => (sh_2 w1).mono fun _ _ ⟨he, hb⟩ => And.intro he (BW.on h hb)
  have HV := True.intro
  have HB : BW w w := Below.refl _ _
  rw [show srt 2 = 1 by decide] at HS
  rw [show ocV 2 = 23 by decide] at HO
  rw [show f3V 2 = 0 by decide] at HF
  rw [show turB 2 = false by decide] at HT
  rw [show shV 2 = 0 by decide] at HH

  have HI : Hid (Isw v 2 ↔ v % 128 = 23 ∧ True) := by
    show _ ↔ _
    unfold Isw
    rw [show ocV 2 = 23 by decide, show f3V 2 = 0 by decide, show agV 2 = 0 by decide, show kdV 2 = 0 by decide]
    simp
    try omega
  by_cases h0 : v % 128 = 23
  · have b0 : (v % 128 != 23) = false := by simp [h0]
    have H0 := Lib.hid h0
    clear h0
    go_enter Tryd.func28, Tryd.ntmps28
    go_wp2_with (first
      | (go_at_call 19; refine (HS _ (by assumption)).mono ?_; rintro e w' ⟨rfl, hb⟩)
      | (go_at_call 9; refine (HO _ (by assumption)).mono ?_; rintro e w' ⟨rfl, hb⟩)
      | (go_at_call 11; refine (HF _ (by assumption)).mono ?_; rintro e w' ⟨rfl, hb⟩)
      | (go_at_call 49; refine (HT _ (by assumption)).mono ?_; rintro e w' ⟨rfl, hb⟩)
      | (go_at_call 31; refine (HH _ (by assumption)).mono ?_; rintro e w' ⟨rfl, hb⟩))
    go_ret
    refine ⟨ret_bool (isw_of ?_), by assumption⟩
    rw [HI.out]
    have h0 := H0.out
    simp
    try omega
  · have b0 : (v % 128 != 23) = true := by simp [h0]
    have H0 := Lib.hid h0
    clear h0
    go_enter Tryd.func28, Tryd.ntmps28
    go_wp2_with (first
      | (go_at_call 19; refine (HS _ (by assumption)).mono ?_; rintro e w' ⟨rfl, hb⟩)
      | (go_at_call 9; refine (HO _ (by assumption)).mono ?_; rintro e w' ⟨rfl, hb⟩)
      | (go_at_call 11; refine (HF _ (by assumption)).mono ?_; rintro e w' ⟨rfl, hb⟩)
      | (go_at_call 49; refine (HT _ (by assumption)).mono ?_; rintro e w' ⟨rfl, hb⟩)
      | (go_at_call 31; refine (HH _ (by assumption)).mono ?_; rintro e w' ⟨rfl, hb⟩))
    go_ret
    refine ⟨ret_bool (isw_of ?_), by assumption⟩
    rw [HI.out]
    have h0 := H0.out
    simp
    try omega
set_option maxRecDepth 100000 in
theorem is_3 : IsAt 3 := by
  intro v w v0 v1
  have HS := fun w1 h => sort_bw w w1 h 3 (by decide) (by decide)
  have HO : ∀ w1, BW w w1 → _ := fun w1 h => (oc_3 w1).mono fun _ _ ⟨he, hb⟩ => And.intro he (BW.on h hb)
  have HF : ∀ w1, BW w w1 → _ := fun w1 h => (fc_3 w1).mono fun _ _ ⟨he, hb⟩ => And.intro he (BW.on h hb)
  have HT : ∀ w1, BW w w1 → _ := fun w1 h => (tu_3 w1).mono fun _ _ ⟨he, hb⟩ => And.intro he (BW.on h hb)
  have HH : ∀ w1, BW w w1 → _ := fun w1 h => (sh_3 w1).mono fun _ _ ⟨he, hb⟩ => And.intro he (BW.on h hb)
  have HV := True.intro
  have HB : BW w w := Below.refl _ _
  rw [show srt 3 = 2 by decide] at HS
  rw [show ocV 3 = 111 by decide] at HO
  rw [show f3V 3 = 0 by decide] at HF
  rw [show turB 3 = false by decide] at HT
  rw [show shV 3 = 0 by decide] at HH

  have HI : Hid (Isw v 3 ↔ v % 128 = 111 ∧ True) := by
    show _ ↔ _
    unfold Isw
    rw [show ocV 3 = 111 by decide, show f3V 3 = 0 by decide, show agV 3 = 0 by decide, show kdV 3 = 0 by decide]
    simp
    try omega
  by_cases h0 : v % 128 = 111
  · have b0 : (v % 128 != 111) = false := by simp [h0]
    have H0 := Lib.hid h0
    clear h0
    go_enter Tryd.func28, Tryd.ntmps28
    go_wp2_with (first
      | (go_at_call 19; refine (HS _ (by assumption)).mono ?_; rintro e w' ⟨rfl, hb⟩)
      | (go_at_call 9; refine (HO _ (by assumption)).mono ?_; rintro e w' ⟨rfl, hb⟩)
      | (go_at_call 11; refine (HF _ (by assumption)).mono ?_; rintro e w' ⟨rfl, hb⟩)
      | (go_at_call 49; refine (HT _ (by assumption)).mono ?_; rintro e w' ⟨rfl, hb⟩)
      | (go_at_call 31; refine (HH _ (by assumption)).mono ?_; rintro e w' ⟨rfl, hb⟩))
    go_ret
    refine ⟨ret_bool (isw_of ?_), by assumption⟩
    rw [HI.out]
    have h0 := H0.out
    simp
    try omega
  · have b0 : (v % 128 != 111) = true := by simp [h0]
    have H0 := Lib.hid h0
    clear h0
    go_enter Tryd.func28, Tryd.ntmps28
    go_wp2_with (first
      | (go_at_call 19; refine (HS _ (by assumption)).mono ?_; rintro e w' ⟨rfl, hb⟩)
      | (go_at_call 9; refine (HO _ (by assumption)).mono ?_; rintro e w' ⟨rfl, hb⟩)
      | (go_at_call 11; refine (HF _ (by assumption)).mono ?_; rintro e w' ⟨rfl, hb⟩)
      | (go_at_call 49; refine (HT _ (by assumption)).mono ?_; rintro e w' ⟨rfl, hb⟩)
      | (go_at_call 31; refine (HH _ (by assumption)).mono ?_; rintro e w' ⟨rfl, hb⟩))
    go_ret
    refine ⟨ret_bool (isw_of ?_), by assumption⟩
    rw [HI.out]
    have h0 := H0.out
    simp
    try omega
set_option maxRecDepth 100000 in
theorem is_4 : IsAt 4 := by
  intro v w v0 v1
  have HS := fun w1 h => sort_bw w w1 h 4 (by decide) (by decide)
  have HO : ∀ w1, BW w w1 → _ := fun w1 h => (oc_4 w1).mono fun _ _ ⟨he, hb⟩ => And.intro he (BW.on h hb)
  have HF : ∀ w1, BW w w1 → _ := fun w1 h => (fc_4 w1).mono fun _ _ ⟨he, hb⟩ => And.intro he (BW.on h hb)
  have HT : ∀ w1, BW w w1 → _ := fun w1 h => (tu_4 w1).mono fun _ _ ⟨he, hb⟩ => And.intro he (BW.on h hb)
  have HH : ∀ w1, BW w w1 → _ := fun w1 h => (sh_4 w1).mono fun _ _ ⟨he, hb⟩ => And.intro he (BW.on h hb)
  have HV := True.intro
  have HB : BW w w := Below.refl _ _
  rw [show srt 4 = 2 by decide] at HS
  rw [show ocV 4 = 103 by decide] at HO
  rw [show f3V 4 = 0 by decide] at HF
  rw [show turB 4 = false by decide] at HT
  rw [show shV 4 = 0 by decide] at HH

  have HI : Hid (Isw v 4 ↔ v % 128 = 103 ∧ v / 4096 % 8 = 0) := by
    show _ ↔ _
    unfold Isw
    rw [show ocV 4 = 103 by decide, show f3V 4 = 0 by decide, show agV 4 = 0 by decide, show kdV 4 = 1 by decide]
    simp
    try omega
  by_cases h0 : v % 128 = 103
  · have b0 : (v % 128 != 103) = false := by simp [h0]
    have H0 := Lib.hid h0
    clear h0
    by_cases h1 : v / 4096 % 8 = 0
    · have b1 : (v / 4096 % 8 != 0) = false := by simp [h1]
      have H1 := Lib.hid h1
      clear h1
      go_enter Tryd.func28, Tryd.ntmps28
      go_wp2_with (first
        | (go_at_call 19; refine (HS _ (by assumption)).mono ?_; rintro e w' ⟨rfl, hb⟩)
        | (go_at_call 9; refine (HO _ (by assumption)).mono ?_; rintro e w' ⟨rfl, hb⟩)
        | (go_at_call 11; refine (HF _ (by assumption)).mono ?_; rintro e w' ⟨rfl, hb⟩)
        | (go_at_call 49; refine (HT _ (by assumption)).mono ?_; rintro e w' ⟨rfl, hb⟩)
        | (go_at_call 31; refine (HH _ (by assumption)).mono ?_; rintro e w' ⟨rfl, hb⟩))
      go_ret
      refine ⟨ret_bool (isw_of ?_), by assumption⟩
      rw [HI.out]
      have h0 := H0.out
      have h1 := H1.out
      simp
      try omega
    · have b1 : (v / 4096 % 8 != 0) = true := by simp [h1]
      have H1 := Lib.hid h1
      clear h1
      go_enter Tryd.func28, Tryd.ntmps28
      go_wp2_with (first
        | (go_at_call 19; refine (HS _ (by assumption)).mono ?_; rintro e w' ⟨rfl, hb⟩)
        | (go_at_call 9; refine (HO _ (by assumption)).mono ?_; rintro e w' ⟨rfl, hb⟩)
        | (go_at_call 11; refine (HF _ (by assumption)).mono ?_; rintro e w' ⟨rfl, hb⟩)
        | (go_at_call 49; refine (HT _ (by assumption)).mono ?_; rintro e w' ⟨rfl, hb⟩)
        | (go_at_call 31; refine (HH _ (by assumption)).mono ?_; rintro e w' ⟨rfl, hb⟩))
      go_ret
      refine ⟨ret_bool (isw_of ?_), by assumption⟩
      rw [HI.out]
      have h0 := H0.out
      have h1 := H1.out
      simp
      try omega
  · have b0 : (v % 128 != 103) = true := by simp [h0]
    have H0 := Lib.hid h0
    clear h0
    go_enter Tryd.func28, Tryd.ntmps28
    go_wp2_with (first
      | (go_at_call 19; refine (HS _ (by assumption)).mono ?_; rintro e w' ⟨rfl, hb⟩)
      | (go_at_call 9; refine (HO _ (by assumption)).mono ?_; rintro e w' ⟨rfl, hb⟩)
      | (go_at_call 11; refine (HF _ (by assumption)).mono ?_; rintro e w' ⟨rfl, hb⟩)
      | (go_at_call 49; refine (HT _ (by assumption)).mono ?_; rintro e w' ⟨rfl, hb⟩)
      | (go_at_call 31; refine (HH _ (by assumption)).mono ?_; rintro e w' ⟨rfl, hb⟩))
    go_ret
    refine ⟨ret_bool (isw_of ?_), by assumption⟩
    rw [HI.out]
    have h0 := H0.out
    simp
    try omega
set_option maxRecDepth 100000 in
theorem is_5 : IsAt 5 := by
  intro v w v0 v1
  have HS := fun w1 h => sort_bw w w1 h 5 (by decide) (by decide)
  have HO : ∀ w1, BW w w1 → _ := fun w1 h => (oc_5 w1).mono fun _ _ ⟨he, hb⟩ => And.intro he (BW.on h hb)
  have HF : ∀ w1, BW w w1 → _ := fun w1 h => (fc_5 w1).mono fun _ _ ⟨he, hb⟩ => And.intro he (BW.on h hb)
  have HT : ∀ w1, BW w w1 → _ := fun w1 h => (tu_5 w1).mono fun _ _ ⟨he, hb⟩ => And.intro he (BW.on h hb)
  have HH : ∀ w1, BW w w1 → _ := fun w1 h => (sh_5 w1).mono fun _ _ ⟨he, hb⟩ => And.intro he (BW.on h hb)
  have HV := True.intro
  have HB : BW w w := Below.refl _ _
  rw [show srt 5 = 3 by decide] at HS
  rw [show ocV 5 = 99 by decide] at HO
  rw [show f3V 5 = 0 by decide] at HF
  rw [show turB 5 = false by decide] at HT
  rw [show shV 5 = 0 by decide] at HH

  have HI : Hid (Isw v 5 ↔ v % 128 = 99 ∧ v / 4096 % 8 = 0) := by
    show _ ↔ _
    unfold Isw
    rw [show ocV 5 = 99 by decide, show f3V 5 = 0 by decide, show agV 5 = 0 by decide, show kdV 5 = 1 by decide]
    simp
    try omega
  by_cases h0 : v % 128 = 99
  · have b0 : (v % 128 != 99) = false := by simp [h0]
    have H0 := Lib.hid h0
    clear h0
    by_cases h1 : v / 4096 % 8 = 0
    · have b1 : (v / 4096 % 8 != 0) = false := by simp [h1]
      have H1 := Lib.hid h1
      clear h1
      go_enter Tryd.func28, Tryd.ntmps28
      go_wp2_with (first
        | (go_at_call 19; refine (HS _ (by assumption)).mono ?_; rintro e w' ⟨rfl, hb⟩)
        | (go_at_call 9; refine (HO _ (by assumption)).mono ?_; rintro e w' ⟨rfl, hb⟩)
        | (go_at_call 11; refine (HF _ (by assumption)).mono ?_; rintro e w' ⟨rfl, hb⟩)
        | (go_at_call 49; refine (HT _ (by assumption)).mono ?_; rintro e w' ⟨rfl, hb⟩)
        | (go_at_call 31; refine (HH _ (by assumption)).mono ?_; rintro e w' ⟨rfl, hb⟩))
      go_ret
      refine ⟨ret_bool (isw_of ?_), by assumption⟩
      rw [HI.out]
      have h0 := H0.out
      have h1 := H1.out
      simp
      try omega
    · have b1 : (v / 4096 % 8 != 0) = true := by simp [h1]
      have H1 := Lib.hid h1
      clear h1
      go_enter Tryd.func28, Tryd.ntmps28
      go_wp2_with (first
        | (go_at_call 19; refine (HS _ (by assumption)).mono ?_; rintro e w' ⟨rfl, hb⟩)
        | (go_at_call 9; refine (HO _ (by assumption)).mono ?_; rintro e w' ⟨rfl, hb⟩)
        | (go_at_call 11; refine (HF _ (by assumption)).mono ?_; rintro e w' ⟨rfl, hb⟩)
        | (go_at_call 49; refine (HT _ (by assumption)).mono ?_; rintro e w' ⟨rfl, hb⟩)
        | (go_at_call 31; refine (HH _ (by assumption)).mono ?_; rintro e w' ⟨rfl, hb⟩))
      go_ret
      refine ⟨ret_bool (isw_of ?_), by assumption⟩
      rw [HI.out]
      have h0 := H0.out
      have h1 := H1.out
      simp
      try omega
  · have b0 : (v % 128 != 99) = true := by simp [h0]
    have H0 := Lib.hid h0
    clear h0
    go_enter Tryd.func28, Tryd.ntmps28
    go_wp2_with (first
      | (go_at_call 19; refine (HS _ (by assumption)).mono ?_; rintro e w' ⟨rfl, hb⟩)
      | (go_at_call 9; refine (HO _ (by assumption)).mono ?_; rintro e w' ⟨rfl, hb⟩)
      | (go_at_call 11; refine (HF _ (by assumption)).mono ?_; rintro e w' ⟨rfl, hb⟩)
      | (go_at_call 49; refine (HT _ (by assumption)).mono ?_; rintro e w' ⟨rfl, hb⟩)
      | (go_at_call 31; refine (HH _ (by assumption)).mono ?_; rintro e w' ⟨rfl, hb⟩))
    go_ret
    refine ⟨ret_bool (isw_of ?_), by assumption⟩
    rw [HI.out]
    have h0 := H0.out
    simp
    try omega
set_option maxRecDepth 100000 in
theorem is_6 : IsAt 6 := by
  intro v w v0 v1
  have HS := fun w1 h => sort_bw w w1 h 6 (by decide) (by decide)
  have HO : ∀ w1, BW w w1 → _ := fun w1 h => (oc_6 w1).mono fun _ _ ⟨he, hb⟩ => And.intro he (BW.on h hb)
  have HF : ∀ w1, BW w w1 → _ := fun w1 h => (fc_6 w1).mono fun _ _ ⟨he, hb⟩ => And.intro he (BW.on h hb)
  have HT : ∀ w1, BW w w1 → _ := fun w1 h => (tu_6 w1).mono fun _ _ ⟨he, hb⟩ => And.intro he (BW.on h hb)
  have HH : ∀ w1, BW w w1 → _ := fun w1 h => (sh_6 w1).mono fun _ _ ⟨he, hb⟩ => And.intro he (BW.on h hb)
  have HV := True.intro
  have HB : BW w w := Below.refl _ _
  rw [show srt 6 = 3 by decide] at HS
  rw [show ocV 6 = 99 by decide] at HO
  rw [show f3V 6 = 1 by decide] at HF
  rw [show turB 6 = false by decide] at HT
  rw [show shV 6 = 0 by decide] at HH

  have HI : Hid (Isw v 6 ↔ v % 128 = 99 ∧ v / 4096 % 8 = 1) := by
    show _ ↔ _
    unfold Isw
    rw [show ocV 6 = 99 by decide, show f3V 6 = 1 by decide, show agV 6 = 0 by decide, show kdV 6 = 1 by decide]
    simp
    try omega
  by_cases h0 : v % 128 = 99
  · have b0 : (v % 128 != 99) = false := by simp [h0]
    have H0 := Lib.hid h0
    clear h0
    by_cases h1 : v / 4096 % 8 = 1
    · have b1 : (v / 4096 % 8 != 1) = false := by simp [h1]
      have H1 := Lib.hid h1
      clear h1
      go_enter Tryd.func28, Tryd.ntmps28
      go_wp2_with (first
        | (go_at_call 19; refine (HS _ (by assumption)).mono ?_; rintro e w' ⟨rfl, hb⟩)
        | (go_at_call 9; refine (HO _ (by assumption)).mono ?_; rintro e w' ⟨rfl, hb⟩)
        | (go_at_call 11; refine (HF _ (by assumption)).mono ?_; rintro e w' ⟨rfl, hb⟩)
        | (go_at_call 49; refine (HT _ (by assumption)).mono ?_; rintro e w' ⟨rfl, hb⟩)
        | (go_at_call 31; refine (HH _ (by assumption)).mono ?_; rintro e w' ⟨rfl, hb⟩))
      go_ret
      refine ⟨ret_bool (isw_of ?_), by assumption⟩
      rw [HI.out]
      have h0 := H0.out
      have h1 := H1.out
      simp
      try omega
    · have b1 : (v / 4096 % 8 != 1) = true := by simp [h1]
      have H1 := Lib.hid h1
      clear h1
      go_enter Tryd.func28, Tryd.ntmps28
      go_wp2_with (first
        | (go_at_call 19; refine (HS _ (by assumption)).mono ?_; rintro e w' ⟨rfl, hb⟩)
        | (go_at_call 9; refine (HO _ (by assumption)).mono ?_; rintro e w' ⟨rfl, hb⟩)
        | (go_at_call 11; refine (HF _ (by assumption)).mono ?_; rintro e w' ⟨rfl, hb⟩)
        | (go_at_call 49; refine (HT _ (by assumption)).mono ?_; rintro e w' ⟨rfl, hb⟩)
        | (go_at_call 31; refine (HH _ (by assumption)).mono ?_; rintro e w' ⟨rfl, hb⟩))
      go_ret
      refine ⟨ret_bool (isw_of ?_), by assumption⟩
      rw [HI.out]
      have h0 := H0.out
      have h1 := H1.out
      simp
      try omega
  · have b0 : (v % 128 != 99) = true := by simp [h0]
    have H0 := Lib.hid h0
    clear h0
    go_enter Tryd.func28, Tryd.ntmps28
    go_wp2_with (first
      | (go_at_call 19; refine (HS _ (by assumption)).mono ?_; rintro e w' ⟨rfl, hb⟩)
      | (go_at_call 9; refine (HO _ (by assumption)).mono ?_; rintro e w' ⟨rfl, hb⟩)
      | (go_at_call 11; refine (HF _ (by assumption)).mono ?_; rintro e w' ⟨rfl, hb⟩)
      | (go_at_call 49; refine (HT _ (by assumption)).mono ?_; rintro e w' ⟨rfl, hb⟩)
      | (go_at_call 31; refine (HH _ (by assumption)).mono ?_; rintro e w' ⟨rfl, hb⟩))
    go_ret
    refine ⟨ret_bool (isw_of ?_), by assumption⟩
    rw [HI.out]
    have h0 := H0.out
    simp
    try omega
set_option maxRecDepth 100000 in
theorem is_7 : IsAt 7 := by
  intro v w v0 v1
  have HS := fun w1 h => sort_bw w w1 h 7 (by decide) (by decide)
  have HO : ∀ w1, BW w w1 → _ := fun w1 h => (oc_7 w1).mono fun _ _ ⟨he, hb⟩ => And.intro he (BW.on h hb)
  have HF : ∀ w1, BW w w1 → _ := fun w1 h => (fc_7 w1).mono fun _ _ ⟨he, hb⟩ => And.intro he (BW.on h hb)
  have HT : ∀ w1, BW w w1 → _ := fun w1 h => (tu_7 w1).mono fun _ _ ⟨he, hb⟩ => And.intro he (BW.on h hb)
  have HH : ∀ w1, BW w w1 → _ := fun w1 h => (sh_7 w1).mono fun _ _ ⟨he, hb⟩ => And.intro he (BW.on h hb)
  have HV := True.intro
  have HB : BW w w := Below.refl _ _
  rw [show srt 7 = 3 by decide] at HS
  rw [show ocV 7 = 99 by decide] at HO
  rw [show f3V 7 = 4 by decide] at HF
  rw [show turB 7 = false by decide] at HT
  rw [show shV 7 = 0 by decide] at HH

  have HI : Hid (Isw v 7 ↔ v % 128 = 99 ∧ v / 4096 % 8 = 4) := by
    show _ ↔ _
    unfold Isw
    rw [show ocV 7 = 99 by decide, show f3V 7 = 4 by decide, show agV 7 = 0 by decide, show kdV 7 = 1 by decide]
    simp
    try omega
  by_cases h0 : v % 128 = 99
  · have b0 : (v % 128 != 99) = false := by simp [h0]
    have H0 := Lib.hid h0
    clear h0
    by_cases h1 : v / 4096 % 8 = 4
    · have b1 : (v / 4096 % 8 != 4) = false := by simp [h1]
      have H1 := Lib.hid h1
      clear h1
      go_enter Tryd.func28, Tryd.ntmps28
      go_wp2_with (first
        | (go_at_call 19; refine (HS _ (by assumption)).mono ?_; rintro e w' ⟨rfl, hb⟩)
        | (go_at_call 9; refine (HO _ (by assumption)).mono ?_; rintro e w' ⟨rfl, hb⟩)
        | (go_at_call 11; refine (HF _ (by assumption)).mono ?_; rintro e w' ⟨rfl, hb⟩)
        | (go_at_call 49; refine (HT _ (by assumption)).mono ?_; rintro e w' ⟨rfl, hb⟩)
        | (go_at_call 31; refine (HH _ (by assumption)).mono ?_; rintro e w' ⟨rfl, hb⟩))
      go_ret
      refine ⟨ret_bool (isw_of ?_), by assumption⟩
      rw [HI.out]
      have h0 := H0.out
      have h1 := H1.out
      simp
      try omega
    · have b1 : (v / 4096 % 8 != 4) = true := by simp [h1]
      have H1 := Lib.hid h1
      clear h1
      go_enter Tryd.func28, Tryd.ntmps28
      go_wp2_with (first
        | (go_at_call 19; refine (HS _ (by assumption)).mono ?_; rintro e w' ⟨rfl, hb⟩)
        | (go_at_call 9; refine (HO _ (by assumption)).mono ?_; rintro e w' ⟨rfl, hb⟩)
        | (go_at_call 11; refine (HF _ (by assumption)).mono ?_; rintro e w' ⟨rfl, hb⟩)
        | (go_at_call 49; refine (HT _ (by assumption)).mono ?_; rintro e w' ⟨rfl, hb⟩)
        | (go_at_call 31; refine (HH _ (by assumption)).mono ?_; rintro e w' ⟨rfl, hb⟩))
      go_ret
      refine ⟨ret_bool (isw_of ?_), by assumption⟩
      rw [HI.out]
      have h0 := H0.out
      have h1 := H1.out
      simp
      try omega
  · have b0 : (v % 128 != 99) = true := by simp [h0]
    have H0 := Lib.hid h0
    clear h0
    go_enter Tryd.func28, Tryd.ntmps28
    go_wp2_with (first
      | (go_at_call 19; refine (HS _ (by assumption)).mono ?_; rintro e w' ⟨rfl, hb⟩)
      | (go_at_call 9; refine (HO _ (by assumption)).mono ?_; rintro e w' ⟨rfl, hb⟩)
      | (go_at_call 11; refine (HF _ (by assumption)).mono ?_; rintro e w' ⟨rfl, hb⟩)
      | (go_at_call 49; refine (HT _ (by assumption)).mono ?_; rintro e w' ⟨rfl, hb⟩)
      | (go_at_call 31; refine (HH _ (by assumption)).mono ?_; rintro e w' ⟨rfl, hb⟩))
    go_ret
    refine ⟨ret_bool (isw_of ?_), by assumption⟩
    rw [HI.out]
    have h0 := H0.out
    simp
    try omega
set_option maxRecDepth 100000 in
theorem is_8 : IsAt 8 := by
  intro v w v0 v1
  have HS := fun w1 h => sort_bw w w1 h 8 (by decide) (by decide)
  have HO : ∀ w1, BW w w1 → _ := fun w1 h => (oc_8 w1).mono fun _ _ ⟨he, hb⟩ => And.intro he (BW.on h hb)
  have HF : ∀ w1, BW w w1 → _ := fun w1 h => (fc_8 w1).mono fun _ _ ⟨he, hb⟩ => And.intro he (BW.on h hb)
  have HT : ∀ w1, BW w w1 → _ := fun w1 h => (tu_8 w1).mono fun _ _ ⟨he, hb⟩ => And.intro he (BW.on h hb)
  have HH : ∀ w1, BW w w1 → _ := fun w1 h => (sh_8 w1).mono fun _ _ ⟨he, hb⟩ => And.intro he (BW.on h hb)
  have HV := True.intro
  have HB : BW w w := Below.refl _ _
  rw [show srt 8 = 3 by decide] at HS
  rw [show ocV 8 = 99 by decide] at HO
  rw [show f3V 8 = 5 by decide] at HF
  rw [show turB 8 = false by decide] at HT
  rw [show shV 8 = 0 by decide] at HH

  have HI : Hid (Isw v 8 ↔ v % 128 = 99 ∧ v / 4096 % 8 = 5) := by
    show _ ↔ _
    unfold Isw
    rw [show ocV 8 = 99 by decide, show f3V 8 = 5 by decide, show agV 8 = 0 by decide, show kdV 8 = 1 by decide]
    simp
    try omega
  by_cases h0 : v % 128 = 99
  · have b0 : (v % 128 != 99) = false := by simp [h0]
    have H0 := Lib.hid h0
    clear h0
    by_cases h1 : v / 4096 % 8 = 5
    · have b1 : (v / 4096 % 8 != 5) = false := by simp [h1]
      have H1 := Lib.hid h1
      clear h1
      go_enter Tryd.func28, Tryd.ntmps28
      go_wp2_with (first
        | (go_at_call 19; refine (HS _ (by assumption)).mono ?_; rintro e w' ⟨rfl, hb⟩)
        | (go_at_call 9; refine (HO _ (by assumption)).mono ?_; rintro e w' ⟨rfl, hb⟩)
        | (go_at_call 11; refine (HF _ (by assumption)).mono ?_; rintro e w' ⟨rfl, hb⟩)
        | (go_at_call 49; refine (HT _ (by assumption)).mono ?_; rintro e w' ⟨rfl, hb⟩)
        | (go_at_call 31; refine (HH _ (by assumption)).mono ?_; rintro e w' ⟨rfl, hb⟩))
      go_ret
      refine ⟨ret_bool (isw_of ?_), by assumption⟩
      rw [HI.out]
      have h0 := H0.out
      have h1 := H1.out
      simp
      try omega
    · have b1 : (v / 4096 % 8 != 5) = true := by simp [h1]
      have H1 := Lib.hid h1
      clear h1
      go_enter Tryd.func28, Tryd.ntmps28
      go_wp2_with (first
        | (go_at_call 19; refine (HS _ (by assumption)).mono ?_; rintro e w' ⟨rfl, hb⟩)
        | (go_at_call 9; refine (HO _ (by assumption)).mono ?_; rintro e w' ⟨rfl, hb⟩)
        | (go_at_call 11; refine (HF _ (by assumption)).mono ?_; rintro e w' ⟨rfl, hb⟩)
        | (go_at_call 49; refine (HT _ (by assumption)).mono ?_; rintro e w' ⟨rfl, hb⟩)
        | (go_at_call 31; refine (HH _ (by assumption)).mono ?_; rintro e w' ⟨rfl, hb⟩))
      go_ret
      refine ⟨ret_bool (isw_of ?_), by assumption⟩
      rw [HI.out]
      have h0 := H0.out
      have h1 := H1.out
      simp
      try omega
  · have b0 : (v % 128 != 99) = true := by simp [h0]
    have H0 := Lib.hid h0
    clear h0
    go_enter Tryd.func28, Tryd.ntmps28
    go_wp2_with (first
      | (go_at_call 19; refine (HS _ (by assumption)).mono ?_; rintro e w' ⟨rfl, hb⟩)
      | (go_at_call 9; refine (HO _ (by assumption)).mono ?_; rintro e w' ⟨rfl, hb⟩)
      | (go_at_call 11; refine (HF _ (by assumption)).mono ?_; rintro e w' ⟨rfl, hb⟩)
      | (go_at_call 49; refine (HT _ (by assumption)).mono ?_; rintro e w' ⟨rfl, hb⟩)
      | (go_at_call 31; refine (HH _ (by assumption)).mono ?_; rintro e w' ⟨rfl, hb⟩))
    go_ret
    refine ⟨ret_bool (isw_of ?_), by assumption⟩
    rw [HI.out]
    have h0 := H0.out
    simp
    try omega
set_option maxRecDepth 100000 in
theorem is_9 : IsAt 9 := by
  intro v w v0 v1
  have HS := fun w1 h => sort_bw w w1 h 9 (by decide) (by decide)
  have HO : ∀ w1, BW w w1 → _ := fun w1 h => (oc_9 w1).mono fun _ _ ⟨he, hb⟩ => And.intro he (BW.on h hb)
  have HF : ∀ w1, BW w w1 → _ := fun w1 h => (fc_9 w1).mono fun _ _ ⟨he, hb⟩ => And.intro he (BW.on h hb)
  have HT : ∀ w1, BW w w1 → _ := fun w1 h => (tu_9 w1).mono fun _ _ ⟨he, hb⟩ => And.intro he (BW.on h hb)
  have HH : ∀ w1, BW w w1 → _ := fun w1 h => (sh_9 w1).mono fun _ _ ⟨he, hb⟩ => And.intro he (BW.on h hb)
  have HV := True.intro
  have HB : BW w w := Below.refl _ _
  rw [show srt 9 = 3 by decide] at HS
  rw [show ocV 9 = 99 by decide] at HO
  rw [show f3V 9 = 6 by decide] at HF
  rw [show turB 9 = false by decide] at HT
  rw [show shV 9 = 0 by decide] at HH

  have HI : Hid (Isw v 9 ↔ v % 128 = 99 ∧ v / 4096 % 8 = 6) := by
    show _ ↔ _
    unfold Isw
    rw [show ocV 9 = 99 by decide, show f3V 9 = 6 by decide, show agV 9 = 0 by decide, show kdV 9 = 1 by decide]
    simp
    try omega
  by_cases h0 : v % 128 = 99
  · have b0 : (v % 128 != 99) = false := by simp [h0]
    have H0 := Lib.hid h0
    clear h0
    by_cases h1 : v / 4096 % 8 = 6
    · have b1 : (v / 4096 % 8 != 6) = false := by simp [h1]
      have H1 := Lib.hid h1
      clear h1
      go_enter Tryd.func28, Tryd.ntmps28
      go_wp2_with (first
        | (go_at_call 19; refine (HS _ (by assumption)).mono ?_; rintro e w' ⟨rfl, hb⟩)
        | (go_at_call 9; refine (HO _ (by assumption)).mono ?_; rintro e w' ⟨rfl, hb⟩)
        | (go_at_call 11; refine (HF _ (by assumption)).mono ?_; rintro e w' ⟨rfl, hb⟩)
        | (go_at_call 49; refine (HT _ (by assumption)).mono ?_; rintro e w' ⟨rfl, hb⟩)
        | (go_at_call 31; refine (HH _ (by assumption)).mono ?_; rintro e w' ⟨rfl, hb⟩))
      go_ret
      refine ⟨ret_bool (isw_of ?_), by assumption⟩
      rw [HI.out]
      have h0 := H0.out
      have h1 := H1.out
      simp
      try omega
    · have b1 : (v / 4096 % 8 != 6) = true := by simp [h1]
      have H1 := Lib.hid h1
      clear h1
      go_enter Tryd.func28, Tryd.ntmps28
      go_wp2_with (first
        | (go_at_call 19; refine (HS _ (by assumption)).mono ?_; rintro e w' ⟨rfl, hb⟩)
        | (go_at_call 9; refine (HO _ (by assumption)).mono ?_; rintro e w' ⟨rfl, hb⟩)
        | (go_at_call 11; refine (HF _ (by assumption)).mono ?_; rintro e w' ⟨rfl, hb⟩)
        | (go_at_call 49; refine (HT _ (by assumption)).mono ?_; rintro e w' ⟨rfl, hb⟩)
        | (go_at_call 31; refine (HH _ (by assumption)).mono ?_; rintro e w' ⟨rfl, hb⟩))
      go_ret
      refine ⟨ret_bool (isw_of ?_), by assumption⟩
      rw [HI.out]
      have h0 := H0.out
      have h1 := H1.out
      simp
      try omega
  · have b0 : (v % 128 != 99) = true := by simp [h0]
    have H0 := Lib.hid h0
    clear h0
    go_enter Tryd.func28, Tryd.ntmps28
    go_wp2_with (first
      | (go_at_call 19; refine (HS _ (by assumption)).mono ?_; rintro e w' ⟨rfl, hb⟩)
      | (go_at_call 9; refine (HO _ (by assumption)).mono ?_; rintro e w' ⟨rfl, hb⟩)
      | (go_at_call 11; refine (HF _ (by assumption)).mono ?_; rintro e w' ⟨rfl, hb⟩)
      | (go_at_call 49; refine (HT _ (by assumption)).mono ?_; rintro e w' ⟨rfl, hb⟩)
      | (go_at_call 31; refine (HH _ (by assumption)).mono ?_; rintro e w' ⟨rfl, hb⟩))
    go_ret
    refine ⟨ret_bool (isw_of ?_), by assumption⟩
    rw [HI.out]
    have h0 := H0.out
    simp
    try omega
set_option maxRecDepth 100000 in
theorem is_10 : IsAt 10 := by
  intro v w v0 v1
  have HS := fun w1 h => sort_bw w w1 h 10 (by decide) (by decide)
  have HO : ∀ w1, BW w w1 → _ := fun w1 h => (oc_10 w1).mono fun _ _ ⟨he, hb⟩ => And.intro he (BW.on h hb)
  have HF : ∀ w1, BW w w1 → _ := fun w1 h => (fc_10 w1).mono fun _ _ ⟨he, hb⟩ => And.intro he (BW.on h hb)
  have HT : ∀ w1, BW w w1 → _ := fun w1 h => (tu_10 w1).mono fun _ _ ⟨he, hb⟩ => And.intro he (BW.on h hb)
  have HH : ∀ w1, BW w w1 → _ := fun w1 h => (sh_10 w1).mono fun _ _ ⟨he, hb⟩ => And.intro he (BW.on h hb)
  have HV := True.intro
  have HB : BW w w := Below.refl _ _
  rw [show srt 10 = 3 by decide] at HS
  rw [show ocV 10 = 99 by decide] at HO
  rw [show f3V 10 = 7 by decide] at HF
  rw [show turB 10 = false by decide] at HT
  rw [show shV 10 = 0 by decide] at HH

  have HI : Hid (Isw v 10 ↔ v % 128 = 99 ∧ v / 4096 % 8 = 7) := by
    show _ ↔ _
    unfold Isw
    rw [show ocV 10 = 99 by decide, show f3V 10 = 7 by decide, show agV 10 = 0 by decide, show kdV 10 = 1 by decide]
    simp
    try omega
  by_cases h0 : v % 128 = 99
  · have b0 : (v % 128 != 99) = false := by simp [h0]
    have H0 := Lib.hid h0
    clear h0
    by_cases h1 : v / 4096 % 8 = 7
    · have b1 : (v / 4096 % 8 != 7) = false := by simp [h1]
      have H1 := Lib.hid h1
      clear h1
      go_enter Tryd.func28, Tryd.ntmps28
      go_wp2_with (first
        | (go_at_call 19; refine (HS _ (by assumption)).mono ?_; rintro e w' ⟨rfl, hb⟩)
        | (go_at_call 9; refine (HO _ (by assumption)).mono ?_; rintro e w' ⟨rfl, hb⟩)
        | (go_at_call 11; refine (HF _ (by assumption)).mono ?_; rintro e w' ⟨rfl, hb⟩)
        | (go_at_call 49; refine (HT _ (by assumption)).mono ?_; rintro e w' ⟨rfl, hb⟩)
        | (go_at_call 31; refine (HH _ (by assumption)).mono ?_; rintro e w' ⟨rfl, hb⟩))
      go_ret
      refine ⟨ret_bool (isw_of ?_), by assumption⟩
      rw [HI.out]
      have h0 := H0.out
      have h1 := H1.out
      simp
      try omega
    · have b1 : (v / 4096 % 8 != 7) = true := by simp [h1]
      have H1 := Lib.hid h1
      clear h1
      go_enter Tryd.func28, Tryd.ntmps28
      go_wp2_with (first
        | (go_at_call 19; refine (HS _ (by assumption)).mono ?_; rintro e w' ⟨rfl, hb⟩)
        | (go_at_call 9; refine (HO _ (by assumption)).mono ?_; rintro e w' ⟨rfl, hb⟩)
        | (go_at_call 11; refine (HF _ (by assumption)).mono ?_; rintro e w' ⟨rfl, hb⟩)
        | (go_at_call 49; refine (HT _ (by assumption)).mono ?_; rintro e w' ⟨rfl, hb⟩)
        | (go_at_call 31; refine (HH _ (by assumption)).mono ?_; rintro e w' ⟨rfl, hb⟩))
      go_ret
      refine ⟨ret_bool (isw_of ?_), by assumption⟩
      rw [HI.out]
      have h0 := H0.out
      have h1 := H1.out
      simp
      try omega
  · have b0 : (v % 128 != 99) = true := by simp [h0]
    have H0 := Lib.hid h0
    clear h0
    go_enter Tryd.func28, Tryd.ntmps28
    go_wp2_with (first
      | (go_at_call 19; refine (HS _ (by assumption)).mono ?_; rintro e w' ⟨rfl, hb⟩)
      | (go_at_call 9; refine (HO _ (by assumption)).mono ?_; rintro e w' ⟨rfl, hb⟩)
      | (go_at_call 11; refine (HF _ (by assumption)).mono ?_; rintro e w' ⟨rfl, hb⟩)
      | (go_at_call 49; refine (HT _ (by assumption)).mono ?_; rintro e w' ⟨rfl, hb⟩)
      | (go_at_call 31; refine (HH _ (by assumption)).mono ?_; rintro e w' ⟨rfl, hb⟩))
    go_ret
    refine ⟨ret_bool (isw_of ?_), by assumption⟩
    rw [HI.out]
    have h0 := H0.out
    simp
    try omega
set_option maxRecDepth 100000 in
theorem is_11 : IsAt 11 := by
  intro v w v0 v1
  have HS := fun w1 h => sort_bw w w1 h 11 (by decide) (by decide)
  have HO : ∀ w1, BW w w1 → _ := fun w1 h => (oc_11 w1).mono fun _ _ ⟨he, hb⟩ => And.intro he (BW.on h hb)
  have HF : ∀ w1, BW w w1 → _ := fun w1 h => (fc_11 w1).mono fun _ _ ⟨he, hb⟩ => And.intro he (BW.on h hb)
  have HT : ∀ w1, BW w w1 → _ := fun w1 h => (tu_11 w1).mono fun _ _ ⟨he, hb⟩ => And.intro he (BW.on h hb)
  have HH : ∀ w1, BW w w1 → _ := fun w1 h => (sh_11 w1).mono fun _ _ ⟨he, hb⟩ => And.intro he (BW.on h hb)
  have HV := True.intro
  have HB : BW w w := Below.refl _ _
  rw [show srt 11 = 4 by decide] at HS
  rw [show ocV 11 = 3 by decide] at HO
  rw [show f3V 11 = 0 by decide] at HF
  rw [show turB 11 = false by decide] at HT
  rw [show shV 11 = 0 by decide] at HH

  have HI : Hid (Isw v 11 ↔ v % 128 = 3 ∧ v / 4096 % 8 = 0) := by
    show _ ↔ _
    unfold Isw
    rw [show ocV 11 = 3 by decide, show f3V 11 = 0 by decide, show agV 11 = 0 by decide, show kdV 11 = 1 by decide]
    simp
    try omega
  by_cases h0 : v % 128 = 3
  · have b0 : (v % 128 != 3) = false := by simp [h0]
    have H0 := Lib.hid h0
    clear h0
    by_cases h1 : v / 4096 % 8 = 0
    · have b1 : (v / 4096 % 8 != 0) = false := by simp [h1]
      have H1 := Lib.hid h1
      clear h1
      go_enter Tryd.func28, Tryd.ntmps28
      go_wp2_with (first
        | (go_at_call 19; refine (HS _ (by assumption)).mono ?_; rintro e w' ⟨rfl, hb⟩)
        | (go_at_call 9; refine (HO _ (by assumption)).mono ?_; rintro e w' ⟨rfl, hb⟩)
        | (go_at_call 11; refine (HF _ (by assumption)).mono ?_; rintro e w' ⟨rfl, hb⟩)
        | (go_at_call 49; refine (HT _ (by assumption)).mono ?_; rintro e w' ⟨rfl, hb⟩)
        | (go_at_call 31; refine (HH _ (by assumption)).mono ?_; rintro e w' ⟨rfl, hb⟩))
      go_ret
      refine ⟨ret_bool (isw_of ?_), by assumption⟩
      rw [HI.out]
      have h0 := H0.out
      have h1 := H1.out
      simp
      try omega
    · have b1 : (v / 4096 % 8 != 0) = true := by simp [h1]
      have H1 := Lib.hid h1
      clear h1
      go_enter Tryd.func28, Tryd.ntmps28
      go_wp2_with (first
        | (go_at_call 19; refine (HS _ (by assumption)).mono ?_; rintro e w' ⟨rfl, hb⟩)
        | (go_at_call 9; refine (HO _ (by assumption)).mono ?_; rintro e w' ⟨rfl, hb⟩)
        | (go_at_call 11; refine (HF _ (by assumption)).mono ?_; rintro e w' ⟨rfl, hb⟩)
        | (go_at_call 49; refine (HT _ (by assumption)).mono ?_; rintro e w' ⟨rfl, hb⟩)
        | (go_at_call 31; refine (HH _ (by assumption)).mono ?_; rintro e w' ⟨rfl, hb⟩))
      go_ret
      refine ⟨ret_bool (isw_of ?_), by assumption⟩
      rw [HI.out]
      have h0 := H0.out
      have h1 := H1.out
      simp
      try omega
  · have b0 : (v % 128 != 3) = true := by simp [h0]
    have H0 := Lib.hid h0
    clear h0
    go_enter Tryd.func28, Tryd.ntmps28
    go_wp2_with (first
      | (go_at_call 19; refine (HS _ (by assumption)).mono ?_; rintro e w' ⟨rfl, hb⟩)
      | (go_at_call 9; refine (HO _ (by assumption)).mono ?_; rintro e w' ⟨rfl, hb⟩)
      | (go_at_call 11; refine (HF _ (by assumption)).mono ?_; rintro e w' ⟨rfl, hb⟩)
      | (go_at_call 49; refine (HT _ (by assumption)).mono ?_; rintro e w' ⟨rfl, hb⟩)
      | (go_at_call 31; refine (HH _ (by assumption)).mono ?_; rintro e w' ⟨rfl, hb⟩))
    go_ret
    refine ⟨ret_bool (isw_of ?_), by assumption⟩
    rw [HI.out]
    have h0 := H0.out
    simp
    try omega
set_option maxRecDepth 100000 in
theorem is_12 : IsAt 12 := by
  intro v w v0 v1
  have HS := fun w1 h => sort_bw w w1 h 12 (by decide) (by decide)
  have HO : ∀ w1, BW w w1 → _ := fun w1 h => (oc_12 w1).mono fun _ _ ⟨he, hb⟩ => And.intro he (BW.on h hb)
  have HF : ∀ w1, BW w w1 → _ := fun w1 h => (fc_12 w1).mono fun _ _ ⟨he, hb⟩ => And.intro he (BW.on h hb)
  have HT : ∀ w1, BW w w1 → _ := fun w1 h => (tu_12 w1).mono fun _ _ ⟨he, hb⟩ => And.intro he (BW.on h hb)
  have HH : ∀ w1, BW w w1 → _ := fun w1 h => (sh_12 w1).mono fun _ _ ⟨he, hb⟩ => And.intro he (BW.on h hb)
  have HV := True.intro
  have HB : BW w w := Below.refl _ _
  rw [show srt 12 = 4 by decide] at HS
  rw [show ocV 12 = 3 by decide] at HO
  rw [show f3V 12 = 1 by decide] at HF
  rw [show turB 12 = false by decide] at HT
  rw [show shV 12 = 0 by decide] at HH

  have HI : Hid (Isw v 12 ↔ v % 128 = 3 ∧ v / 4096 % 8 = 1) := by
    show _ ↔ _
    unfold Isw
    rw [show ocV 12 = 3 by decide, show f3V 12 = 1 by decide, show agV 12 = 0 by decide, show kdV 12 = 1 by decide]
    simp
    try omega
  by_cases h0 : v % 128 = 3
  · have b0 : (v % 128 != 3) = false := by simp [h0]
    have H0 := Lib.hid h0
    clear h0
    by_cases h1 : v / 4096 % 8 = 1
    · have b1 : (v / 4096 % 8 != 1) = false := by simp [h1]
      have H1 := Lib.hid h1
      clear h1
      go_enter Tryd.func28, Tryd.ntmps28
      go_wp2_with (first
        | (go_at_call 19; refine (HS _ (by assumption)).mono ?_; rintro e w' ⟨rfl, hb⟩)
        | (go_at_call 9; refine (HO _ (by assumption)).mono ?_; rintro e w' ⟨rfl, hb⟩)
        | (go_at_call 11; refine (HF _ (by assumption)).mono ?_; rintro e w' ⟨rfl, hb⟩)
        | (go_at_call 49; refine (HT _ (by assumption)).mono ?_; rintro e w' ⟨rfl, hb⟩)
        | (go_at_call 31; refine (HH _ (by assumption)).mono ?_; rintro e w' ⟨rfl, hb⟩))
      go_ret
      refine ⟨ret_bool (isw_of ?_), by assumption⟩
      rw [HI.out]
      have h0 := H0.out
      have h1 := H1.out
      simp
      try omega
    · have b1 : (v / 4096 % 8 != 1) = true := by simp [h1]
      have H1 := Lib.hid h1
      clear h1
      go_enter Tryd.func28, Tryd.ntmps28
      go_wp2_with (first
        | (go_at_call 19; refine (HS _ (by assumption)).mono ?_; rintro e w' ⟨rfl, hb⟩)
        | (go_at_call 9; refine (HO _ (by assumption)).mono ?_; rintro e w' ⟨rfl, hb⟩)
        | (go_at_call 11; refine (HF _ (by assumption)).mono ?_; rintro e w' ⟨rfl, hb⟩)
        | (go_at_call 49; refine (HT _ (by assumption)).mono ?_; rintro e w' ⟨rfl, hb⟩)
        | (go_at_call 31; refine (HH _ (by assumption)).mono ?_; rintro e w' ⟨rfl, hb⟩))
      go_ret
      refine ⟨ret_bool (isw_of ?_), by assumption⟩
      rw [HI.out]
      have h0 := H0.out
      have h1 := H1.out
      simp
      try omega
  · have b0 : (v % 128 != 3) = true := by simp [h0]
    have H0 := Lib.hid h0
    clear h0
    go_enter Tryd.func28, Tryd.ntmps28
    go_wp2_with (first
      | (go_at_call 19; refine (HS _ (by assumption)).mono ?_; rintro e w' ⟨rfl, hb⟩)
      | (go_at_call 9; refine (HO _ (by assumption)).mono ?_; rintro e w' ⟨rfl, hb⟩)
      | (go_at_call 11; refine (HF _ (by assumption)).mono ?_; rintro e w' ⟨rfl, hb⟩)
      | (go_at_call 49; refine (HT _ (by assumption)).mono ?_; rintro e w' ⟨rfl, hb⟩)
      | (go_at_call 31; refine (HH _ (by assumption)).mono ?_; rintro e w' ⟨rfl, hb⟩))
    go_ret
    refine ⟨ret_bool (isw_of ?_), by assumption⟩
    rw [HI.out]
    have h0 := H0.out
    simp
    try omega
set_option maxRecDepth 100000 in
theorem is_13 : IsAt 13 := by
  intro v w v0 v1
  have HS := fun w1 h => sort_bw w w1 h 13 (by decide) (by decide)
  have HO : ∀ w1, BW w w1 → _ := fun w1 h => (oc_13 w1).mono fun _ _ ⟨he, hb⟩ => And.intro he (BW.on h hb)
  have HF : ∀ w1, BW w w1 → _ := fun w1 h => (fc_13 w1).mono fun _ _ ⟨he, hb⟩ => And.intro he (BW.on h hb)
  have HT : ∀ w1, BW w w1 → _ := fun w1 h => (tu_13 w1).mono fun _ _ ⟨he, hb⟩ => And.intro he (BW.on h hb)
  have HH : ∀ w1, BW w w1 → _ := fun w1 h => (sh_13 w1).mono fun _ _ ⟨he, hb⟩ => And.intro he (BW.on h hb)
  have HV := True.intro
  have HB : BW w w := Below.refl _ _
  rw [show srt 13 = 4 by decide] at HS
  rw [show ocV 13 = 3 by decide] at HO
  rw [show f3V 13 = 2 by decide] at HF
  rw [show turB 13 = false by decide] at HT
  rw [show shV 13 = 0 by decide] at HH

  have HI : Hid (Isw v 13 ↔ v % 128 = 3 ∧ v / 4096 % 8 = 2) := by
    show _ ↔ _
    unfold Isw
    rw [show ocV 13 = 3 by decide, show f3V 13 = 2 by decide, show agV 13 = 0 by decide, show kdV 13 = 1 by decide]
    simp
    try omega
  by_cases h0 : v % 128 = 3
  · have b0 : (v % 128 != 3) = false := by simp [h0]
    have H0 := Lib.hid h0
    clear h0
    by_cases h1 : v / 4096 % 8 = 2
    · have b1 : (v / 4096 % 8 != 2) = false := by simp [h1]
      have H1 := Lib.hid h1
      clear h1
      go_enter Tryd.func28, Tryd.ntmps28
      go_wp2_with (first
        | (go_at_call 19; refine (HS _ (by assumption)).mono ?_; rintro e w' ⟨rfl, hb⟩)
        | (go_at_call 9; refine (HO _ (by assumption)).mono ?_; rintro e w' ⟨rfl, hb⟩)
        | (go_at_call 11; refine (HF _ (by assumption)).mono ?_; rintro e w' ⟨rfl, hb⟩)
        | (go_at_call 49; refine (HT _ (by assumption)).mono ?_; rintro e w' ⟨rfl, hb⟩)
        | (go_at_call 31; refine (HH _ (by assumption)).mono ?_; rintro e w' ⟨rfl, hb⟩))
      go_ret
      refine ⟨ret_bool (isw_of ?_), by assumption⟩
      rw [HI.out]
      have h0 := H0.out
      have h1 := H1.out
      simp
      try omega
    · have b1 : (v / 4096 % 8 != 2) = true := by simp [h1]
      have H1 := Lib.hid h1
      clear h1
      go_enter Tryd.func28, Tryd.ntmps28
      go_wp2_with (first
        | (go_at_call 19; refine (HS _ (by assumption)).mono ?_; rintro e w' ⟨rfl, hb⟩)
        | (go_at_call 9; refine (HO _ (by assumption)).mono ?_; rintro e w' ⟨rfl, hb⟩)
        | (go_at_call 11; refine (HF _ (by assumption)).mono ?_; rintro e w' ⟨rfl, hb⟩)
        | (go_at_call 49; refine (HT _ (by assumption)).mono ?_; rintro e w' ⟨rfl, hb⟩)
        | (go_at_call 31; refine (HH _ (by assumption)).mono ?_; rintro e w' ⟨rfl, hb⟩))
      go_ret
      refine ⟨ret_bool (isw_of ?_), by assumption⟩
      rw [HI.out]
      have h0 := H0.out
      have h1 := H1.out
      simp
      try omega
  · have b0 : (v % 128 != 3) = true := by simp [h0]
    have H0 := Lib.hid h0
    clear h0
    go_enter Tryd.func28, Tryd.ntmps28
    go_wp2_with (first
      | (go_at_call 19; refine (HS _ (by assumption)).mono ?_; rintro e w' ⟨rfl, hb⟩)
      | (go_at_call 9; refine (HO _ (by assumption)).mono ?_; rintro e w' ⟨rfl, hb⟩)
      | (go_at_call 11; refine (HF _ (by assumption)).mono ?_; rintro e w' ⟨rfl, hb⟩)
      | (go_at_call 49; refine (HT _ (by assumption)).mono ?_; rintro e w' ⟨rfl, hb⟩)
      | (go_at_call 31; refine (HH _ (by assumption)).mono ?_; rintro e w' ⟨rfl, hb⟩))
    go_ret
    refine ⟨ret_bool (isw_of ?_), by assumption⟩
    rw [HI.out]
    have h0 := H0.out
    simp
    try omega
set_option maxRecDepth 100000 in
theorem is_14 : IsAt 14 := by
  intro v w v0 v1
  have HS := fun w1 h => sort_bw w w1 h 14 (by decide) (by decide)
  have HO : ∀ w1, BW w w1 → _ := fun w1 h => (oc_14 w1).mono fun _ _ ⟨he, hb⟩ => And.intro he (BW.on h hb)
  have HF : ∀ w1, BW w w1 → _ := fun w1 h => (fc_14 w1).mono fun _ _ ⟨he, hb⟩ => And.intro he (BW.on h hb)
  have HT : ∀ w1, BW w w1 → _ := fun w1 h => (tu_14 w1).mono fun _ _ ⟨he, hb⟩ => And.intro he (BW.on h hb)
  have HH : ∀ w1, BW w w1 → _ := fun w1 h => (sh_14 w1).mono fun _ _ ⟨he, hb⟩ => And.intro he (BW.on h hb)
  have HV := True.intro
  have HB : BW w w := Below.refl _ _
  rw [show srt 14 = 4 by decide] at HS
  rw [show ocV 14 = 3 by decide] at HO
  rw [show f3V 14 = 3 by decide] at HF
  rw [show turB 14 = false by decide] at HT
  rw [show shV 14 = 0 by decide] at HH

  have HI : Hid (Isw v 14 ↔ v % 128 = 3 ∧ v / 4096 % 8 = 3) := by
    show _ ↔ _
    unfold Isw
    rw [show ocV 14 = 3 by decide, show f3V 14 = 3 by decide, show agV 14 = 0 by decide, show kdV 14 = 1 by decide]
    simp
    try omega
  by_cases h0 : v % 128 = 3
  · have b0 : (v % 128 != 3) = false := by simp [h0]
    have H0 := Lib.hid h0
    clear h0
    by_cases h1 : v / 4096 % 8 = 3
    · have b1 : (v / 4096 % 8 != 3) = false := by simp [h1]
      have H1 := Lib.hid h1
      clear h1
      go_enter Tryd.func28, Tryd.ntmps28
      go_wp2_with (first
        | (go_at_call 19; refine (HS _ (by assumption)).mono ?_; rintro e w' ⟨rfl, hb⟩)
        | (go_at_call 9; refine (HO _ (by assumption)).mono ?_; rintro e w' ⟨rfl, hb⟩)
        | (go_at_call 11; refine (HF _ (by assumption)).mono ?_; rintro e w' ⟨rfl, hb⟩)
        | (go_at_call 49; refine (HT _ (by assumption)).mono ?_; rintro e w' ⟨rfl, hb⟩)
        | (go_at_call 31; refine (HH _ (by assumption)).mono ?_; rintro e w' ⟨rfl, hb⟩))
      go_ret
      refine ⟨ret_bool (isw_of ?_), by assumption⟩
      rw [HI.out]
      have h0 := H0.out
      have h1 := H1.out
      simp
      try omega
    · have b1 : (v / 4096 % 8 != 3) = true := by simp [h1]
      have H1 := Lib.hid h1
      clear h1
      go_enter Tryd.func28, Tryd.ntmps28
      go_wp2_with (first
        | (go_at_call 19; refine (HS _ (by assumption)).mono ?_; rintro e w' ⟨rfl, hb⟩)
        | (go_at_call 9; refine (HO _ (by assumption)).mono ?_; rintro e w' ⟨rfl, hb⟩)
        | (go_at_call 11; refine (HF _ (by assumption)).mono ?_; rintro e w' ⟨rfl, hb⟩)
        | (go_at_call 49; refine (HT _ (by assumption)).mono ?_; rintro e w' ⟨rfl, hb⟩)
        | (go_at_call 31; refine (HH _ (by assumption)).mono ?_; rintro e w' ⟨rfl, hb⟩))
      go_ret
      refine ⟨ret_bool (isw_of ?_), by assumption⟩
      rw [HI.out]
      have h0 := H0.out
      have h1 := H1.out
      simp
      try omega
  · have b0 : (v % 128 != 3) = true := by simp [h0]
    have H0 := Lib.hid h0
    clear h0
    go_enter Tryd.func28, Tryd.ntmps28
    go_wp2_with (first
      | (go_at_call 19; refine (HS _ (by assumption)).mono ?_; rintro e w' ⟨rfl, hb⟩)
      | (go_at_call 9; refine (HO _ (by assumption)).mono ?_; rintro e w' ⟨rfl, hb⟩)
      | (go_at_call 11; refine (HF _ (by assumption)).mono ?_; rintro e w' ⟨rfl, hb⟩)
      | (go_at_call 49; refine (HT _ (by assumption)).mono ?_; rintro e w' ⟨rfl, hb⟩)
      | (go_at_call 31; refine (HH _ (by assumption)).mono ?_; rintro e w' ⟨rfl, hb⟩))
    go_ret
    refine ⟨ret_bool (isw_of ?_), by assumption⟩
    rw [HI.out]
    have h0 := H0.out
    simp
    try omega
set_option maxRecDepth 100000 in
theorem is_15 : IsAt 15 := by
  intro v w v0 v1
  have HS := fun w1 h => sort_bw w w1 h 15 (by decide) (by decide)
  have HO : ∀ w1, BW w w1 → _ := fun w1 h => (oc_15 w1).mono fun _ _ ⟨he, hb⟩ => And.intro he (BW.on h hb)
  have HF : ∀ w1, BW w w1 → _ := fun w1 h => (fc_15 w1).mono fun _ _ ⟨he, hb⟩ => And.intro he (BW.on h hb)
  have HT : ∀ w1, BW w w1 → _ := fun w1 h => (tu_15 w1).mono fun _ _ ⟨he, hb⟩ => And.intro he (BW.on h hb)
  have HH : ∀ w1, BW w w1 → _ := fun w1 h => (sh_15 w1).mono fun _ _ ⟨he, hb⟩ => And.intro he (BW.on h hb)
  have HV := True.intro
  have HB : BW w w := Below.refl _ _
  rw [show srt 15 = 4 by decide] at HS
  rw [show ocV 15 = 3 by decide] at HO
  rw [show f3V 15 = 4 by decide] at HF
  rw [show turB 15 = false by decide] at HT
  rw [show shV 15 = 0 by decide] at HH

  have HI : Hid (Isw v 15 ↔ v % 128 = 3 ∧ v / 4096 % 8 = 4) := by
    show _ ↔ _
    unfold Isw
    rw [show ocV 15 = 3 by decide, show f3V 15 = 4 by decide, show agV 15 = 0 by decide, show kdV 15 = 1 by decide]
    simp
    try omega
  by_cases h0 : v % 128 = 3
  · have b0 : (v % 128 != 3) = false := by simp [h0]
    have H0 := Lib.hid h0
    clear h0
    by_cases h1 : v / 4096 % 8 = 4
    · have b1 : (v / 4096 % 8 != 4) = false := by simp [h1]
      have H1 := Lib.hid h1
      clear h1
      go_enter Tryd.func28, Tryd.ntmps28
      go_wp2_with (first
        | (go_at_call 19; refine (HS _ (by assumption)).mono ?_; rintro e w' ⟨rfl, hb⟩)
        | (go_at_call 9; refine (HO _ (by assumption)).mono ?_; rintro e w' ⟨rfl, hb⟩)
        | (go_at_call 11; refine (HF _ (by assumption)).mono ?_; rintro e w' ⟨rfl, hb⟩)
        | (go_at_call 49; refine (HT _ (by assumption)).mono ?_; rintro e w' ⟨rfl, hb⟩)
        | (go_at_call 31; refine (HH _ (by assumption)).mono ?_; rintro e w' ⟨rfl, hb⟩))
      go_ret
      refine ⟨ret_bool (isw_of ?_), by assumption⟩
      rw [HI.out]
      have h0 := H0.out
      have h1 := H1.out
      simp
      try omega
    · have b1 : (v / 4096 % 8 != 4) = true := by simp [h1]
      have H1 := Lib.hid h1
      clear h1
      go_enter Tryd.func28, Tryd.ntmps28
      go_wp2_with (first
        | (go_at_call 19; refine (HS _ (by assumption)).mono ?_; rintro e w' ⟨rfl, hb⟩)
        | (go_at_call 9; refine (HO _ (by assumption)).mono ?_; rintro e w' ⟨rfl, hb⟩)
        | (go_at_call 11; refine (HF _ (by assumption)).mono ?_; rintro e w' ⟨rfl, hb⟩)
        | (go_at_call 49; refine (HT _ (by assumption)).mono ?_; rintro e w' ⟨rfl, hb⟩)
        | (go_at_call 31; refine (HH _ (by assumption)).mono ?_; rintro e w' ⟨rfl, hb⟩))
      go_ret
      refine ⟨ret_bool (isw_of ?_), by assumption⟩
      rw [HI.out]
      have h0 := H0.out
      have h1 := H1.out
      simp
      try omega
  · have b0 : (v % 128 != 3) = true := by simp [h0]
    have H0 := Lib.hid h0
    clear h0
    go_enter Tryd.func28, Tryd.ntmps28
    go_wp2_with (first
      | (go_at_call 19; refine (HS _ (by assumption)).mono ?_; rintro e w' ⟨rfl, hb⟩)
      | (go_at_call 9; refine (HO _ (by assumption)).mono ?_; rintro e w' ⟨rfl, hb⟩)
      | (go_at_call 11; refine (HF _ (by assumption)).mono ?_; rintro e w' ⟨rfl, hb⟩)
      | (go_at_call 49; refine (HT _ (by assumption)).mono ?_; rintro e w' ⟨rfl, hb⟩)
      | (go_at_call 31; refine (HH _ (by assumption)).mono ?_; rintro e w' ⟨rfl, hb⟩))
    go_ret
    refine ⟨ret_bool (isw_of ?_), by assumption⟩
    rw [HI.out]
    have h0 := H0.out
    simp
    try omega
set_option maxRecDepth 100000 in
theorem is_16 : IsAt 16 := by
  intro v w v0 v1
  have HS := fun w1 h => sort_bw w w1 h 16 (by decide) (by decide)
  have HO : ∀ w1, BW w w1 → _ := fun w1 h => (oc_16 w1).mono fun _ _ ⟨he, hb⟩ => And.intro he (BW.on h hb)
  have HF : ∀ w1, BW w w1 → _ := fun w1 h => (fc_16 w1).mono fun _ _ ⟨he, hb⟩ => And.intro he (BW.on h hb)
  have HT : ∀ w1, BW w w1 → _ := fun w1 h => (tu_16 w1).mono fun _ _ ⟨he, hb⟩ => And.intro he (BW.on h hb)
  have HH : ∀ w1, BW w w1 → _ := fun w1 h => (sh_16 w1).mono fun _ _ ⟨he, hb⟩ => And.intro he (BW.on h hb)
  have HV := True.intro
  have HB : BW w w := Below.refl _ _
  rw [show srt 16 = 4 by decide] at HS
  rw [show ocV 16 = 3 by decide] at HO
  rw [show f3V 16 = 5 by decide] at HF
  rw [show turB 16 = false by decide] at HT
  rw [show shV 16 = 0 by decide] at HH

  have HI : Hid (Isw v 16 ↔ v % 128 = 3 ∧ v / 4096 % 8 = 5) := by
    show _ ↔ _
    unfold Isw
    rw [show ocV 16 = 3 by decide, show f3V 16 = 5 by decide, show agV 16 = 0 by decide, show kdV 16 = 1 by decide]
    simp
    try omega
  by_cases h0 : v % 128 = 3
  · have b0 : (v % 128 != 3) = false := by simp [h0]
    have H0 := Lib.hid h0
    clear h0
    by_cases h1 : v / 4096 % 8 = 5
    · have b1 : (v / 4096 % 8 != 5) = false := by simp [h1]
      have H1 := Lib.hid h1
      clear h1
      go_enter Tryd.func28, Tryd.ntmps28
      go_wp2_with (first
        | (go_at_call 19; refine (HS _ (by assumption)).mono ?_; rintro e w' ⟨rfl, hb⟩)
        | (go_at_call 9; refine (HO _ (by assumption)).mono ?_; rintro e w' ⟨rfl, hb⟩)
        | (go_at_call 11; refine (HF _ (by assumption)).mono ?_; rintro e w' ⟨rfl, hb⟩)
        | (go_at_call 49; refine (HT _ (by assumption)).mono ?_; rintro e w' ⟨rfl, hb⟩)
        | (go_at_call 31; refine (HH _ (by assumption)).mono ?_; rintro e w' ⟨rfl, hb⟩))
      go_ret
      refine ⟨ret_bool (isw_of ?_), by assumption⟩
      rw [HI.out]
      have h0 := H0.out
      have h1 := H1.out
      simp
      try omega
    · have b1 : (v / 4096 % 8 != 5) = true := by simp [h1]
      have H1 := Lib.hid h1
      clear h1
      go_enter Tryd.func28, Tryd.ntmps28
      go_wp2_with (first
        | (go_at_call 19; refine (HS _ (by assumption)).mono ?_; rintro e w' ⟨rfl, hb⟩)
        | (go_at_call 9; refine (HO _ (by assumption)).mono ?_; rintro e w' ⟨rfl, hb⟩)
        | (go_at_call 11; refine (HF _ (by assumption)).mono ?_; rintro e w' ⟨rfl, hb⟩)
        | (go_at_call 49; refine (HT _ (by assumption)).mono ?_; rintro e w' ⟨rfl, hb⟩)
        | (go_at_call 31; refine (HH _ (by assumption)).mono ?_; rintro e w' ⟨rfl, hb⟩))
      go_ret
      refine ⟨ret_bool (isw_of ?_), by assumption⟩
      rw [HI.out]
      have h0 := H0.out
      have h1 := H1.out
      simp
      try omega
  · have b0 : (v % 128 != 3) = true := by simp [h0]
    have H0 := Lib.hid h0
    clear h0
    go_enter Tryd.func28, Tryd.ntmps28
    go_wp2_with (first
      | (go_at_call 19; refine (HS _ (by assumption)).mono ?_; rintro e w' ⟨rfl, hb⟩)
      | (go_at_call 9; refine (HO _ (by assumption)).mono ?_; rintro e w' ⟨rfl, hb⟩)
      | (go_at_call 11; refine (HF _ (by assumption)).mono ?_; rintro e w' ⟨rfl, hb⟩)
      | (go_at_call 49; refine (HT _ (by assumption)).mono ?_; rintro e w' ⟨rfl, hb⟩)
      | (go_at_call 31; refine (HH _ (by assumption)).mono ?_; rintro e w' ⟨rfl, hb⟩))
    go_ret
    refine ⟨ret_bool (isw_of ?_), by assumption⟩
    rw [HI.out]
    have h0 := H0.out
    simp
    try omega
set_option maxRecDepth 100000 in
theorem is_17 : IsAt 17 := by
  intro v w v0 v1
  have HS := fun w1 h => sort_bw w w1 h 17 (by decide) (by decide)
  have HO : ∀ w1, BW w w1 → _ := fun w1 h => (oc_17 w1).mono fun _ _ ⟨he, hb⟩ => And.intro he (BW.on h hb)
  have HF : ∀ w1, BW w w1 → _ := fun w1 h => (fc_17 w1).mono fun _ _ ⟨he, hb⟩ => And.intro he (BW.on h hb)
  have HT : ∀ w1, BW w w1 → _ := fun w1 h => (tu_17 w1).mono fun _ _ ⟨he, hb⟩ => And.intro he (BW.on h hb)
  have HH : ∀ w1, BW w w1 → _ := fun w1 h => (sh_17 w1).mono fun _ _ ⟨he, hb⟩ => And.intro he (BW.on h hb)
  have HV := True.intro
  have HB : BW w w := Below.refl _ _
  rw [show srt 17 = 4 by decide] at HS
  rw [show ocV 17 = 3 by decide] at HO
  rw [show f3V 17 = 6 by decide] at HF
  rw [show turB 17 = false by decide] at HT
  rw [show shV 17 = 0 by decide] at HH

  have HI : Hid (Isw v 17 ↔ v % 128 = 3 ∧ v / 4096 % 8 = 6) := by
    show _ ↔ _
    unfold Isw
    rw [show ocV 17 = 3 by decide, show f3V 17 = 6 by decide, show agV 17 = 0 by decide, show kdV 17 = 1 by decide]
    simp
    try omega
  by_cases h0 : v % 128 = 3
  · have b0 : (v % 128 != 3) = false := by simp [h0]
    have H0 := Lib.hid h0
    clear h0
    by_cases h1 : v / 4096 % 8 = 6
    · have b1 : (v / 4096 % 8 != 6) = false := by simp [h1]
      have H1 := Lib.hid h1
      clear h1
      go_enter Tryd.func28, Tryd.ntmps28
      go_wp2_with (first
        | (go_at_call 19; refine (HS _ (by assumption)).mono ?_; rintro e w' ⟨rfl, hb⟩)
        | (go_at_call 9; refine (HO _ (by assumption)).mono ?_; rintro e w' ⟨rfl, hb⟩)
        | (go_at_call 11; refine (HF _ (by assumption)).mono ?_; rintro e w' ⟨rfl, hb⟩)
        | (go_at_call 49; refine (HT _ (by assumption)).mono ?_; rintro e w' ⟨rfl, hb⟩)
        | (go_at_call 31; refine (HH _ (by assumption)).mono ?_; rintro e w' ⟨rfl, hb⟩))
      go_ret
      refine ⟨ret_bool (isw_of ?_), by assumption⟩
      rw [HI.out]
      have h0 := H0.out
      have h1 := H1.out
      simp
      try omega
    · have b1 : (v / 4096 % 8 != 6) = true := by simp [h1]
      have H1 := Lib.hid h1
      clear h1
      go_enter Tryd.func28, Tryd.ntmps28
      go_wp2_with (first
        | (go_at_call 19; refine (HS _ (by assumption)).mono ?_; rintro e w' ⟨rfl, hb⟩)
        | (go_at_call 9; refine (HO _ (by assumption)).mono ?_; rintro e w' ⟨rfl, hb⟩)
        | (go_at_call 11; refine (HF _ (by assumption)).mono ?_; rintro e w' ⟨rfl, hb⟩)
        | (go_at_call 49; refine (HT _ (by assumption)).mono ?_; rintro e w' ⟨rfl, hb⟩)
        | (go_at_call 31; refine (HH _ (by assumption)).mono ?_; rintro e w' ⟨rfl, hb⟩))
      go_ret
      refine ⟨ret_bool (isw_of ?_), by assumption⟩
      rw [HI.out]
      have h0 := H0.out
      have h1 := H1.out
      simp
      try omega
  · have b0 : (v % 128 != 3) = true := by simp [h0]
    have H0 := Lib.hid h0
    clear h0
    go_enter Tryd.func28, Tryd.ntmps28
    go_wp2_with (first
      | (go_at_call 19; refine (HS _ (by assumption)).mono ?_; rintro e w' ⟨rfl, hb⟩)
      | (go_at_call 9; refine (HO _ (by assumption)).mono ?_; rintro e w' ⟨rfl, hb⟩)
      | (go_at_call 11; refine (HF _ (by assumption)).mono ?_; rintro e w' ⟨rfl, hb⟩)
      | (go_at_call 49; refine (HT _ (by assumption)).mono ?_; rintro e w' ⟨rfl, hb⟩)
      | (go_at_call 31; refine (HH _ (by assumption)).mono ?_; rintro e w' ⟨rfl, hb⟩))
    go_ret
    refine ⟨ret_bool (isw_of ?_), by assumption⟩
    rw [HI.out]
    have h0 := H0.out
    simp
    try omega
set_option maxRecDepth 100000 in
theorem is_18 : IsAt 18 := by
  intro v w v0 v1
  have HS := fun w1 h => sort_bw w w1 h 18 (by decide) (by decide)
  have HO : ∀ w1, BW w w1 → _ := fun w1 h => (oc_18 w1).mono fun _ _ ⟨he, hb⟩ => And.intro he (BW.on h hb)
  have HF : ∀ w1, BW w w1 → _ := fun w1 h => (fc_18 w1).mono fun _ _ ⟨he, hb⟩ => And.intro he (BW.on h hb)
  have HT : ∀ w1, BW w w1 → _ := fun w1 h => (tu_18 w1).mono fun _ _ ⟨he, hb⟩ => And.intro he (BW.on h hb)
  have HH : ∀ w1, BW w w1 → _ := fun w1 h => (sh_18 w1).mono fun _ _ ⟨he, hb⟩ => And.intro he (BW.on h hb)
  have HV := True.intro
  have HB : BW w w := Below.refl _ _
  rw [show srt 18 = 5 by decide] at HS
  rw [show ocV 18 = 35 by decide] at HO
  rw [show f3V 18 = 0 by decide] at HF
  rw [show turB 18 = false by decide] at HT
  rw [show shV 18 = 0 by decide] at HH

  have HI : Hid (Isw v 18 ↔ v % 128 = 35 ∧ v / 4096 % 8 = 0) := by
    show _ ↔ _
    unfold Isw
    rw [show ocV 18 = 35 by decide, show f3V 18 = 0 by decide, show agV 18 = 0 by decide, show kdV 18 = 1 by decide]
    simp
    try omega
  by_cases h0 : v % 128 = 35
  · have b0 : (v % 128 != 35) = false := by simp [h0]
    have H0 := Lib.hid h0
    clear h0
    by_cases h1 : v / 4096 % 8 = 0
    · have b1 : (v / 4096 % 8 != 0) = false := by simp [h1]
      have H1 := Lib.hid h1
      clear h1
      go_enter Tryd.func28, Tryd.ntmps28
      go_wp2_with (first
        | (go_at_call 19; refine (HS _ (by assumption)).mono ?_; rintro e w' ⟨rfl, hb⟩)
        | (go_at_call 9; refine (HO _ (by assumption)).mono ?_; rintro e w' ⟨rfl, hb⟩)
        | (go_at_call 11; refine (HF _ (by assumption)).mono ?_; rintro e w' ⟨rfl, hb⟩)
        | (go_at_call 49; refine (HT _ (by assumption)).mono ?_; rintro e w' ⟨rfl, hb⟩)
        | (go_at_call 31; refine (HH _ (by assumption)).mono ?_; rintro e w' ⟨rfl, hb⟩))
      go_ret
      refine ⟨ret_bool (isw_of ?_), by assumption⟩
      rw [HI.out]
      have h0 := H0.out
      have h1 := H1.out
      simp
      try omega
    · have b1 : (v / 4096 % 8 != 0) = true := by simp [h1]
      have H1 := Lib.hid h1
      clear h1
      go_enter Tryd.func28, Tryd.ntmps28
      go_wp2_with (first
        | (go_at_call 19; refine (HS _ (by assumption)).mono ?_; rintro e w' ⟨rfl, hb⟩)
        | (go_at_call 9; refine (HO _ (by assumption)).mono ?_; rintro e w' ⟨rfl, hb⟩)
        | (go_at_call 11; refine (HF _ (by assumption)).mono ?_; rintro e w' ⟨rfl, hb⟩)
        | (go_at_call 49; refine (HT _ (by assumption)).mono ?_; rintro e w' ⟨rfl, hb⟩)
        | (go_at_call 31; refine (HH _ (by assumption)).mono ?_; rintro e w' ⟨rfl, hb⟩))
      go_ret
      refine ⟨ret_bool (isw_of ?_), by assumption⟩
      rw [HI.out]
      have h0 := H0.out
      have h1 := H1.out
      simp
      try omega
  · have b0 : (v % 128 != 35) = true := by simp [h0]
    have H0 := Lib.hid h0
    clear h0
    go_enter Tryd.func28, Tryd.ntmps28
    go_wp2_with (first
      | (go_at_call 19; refine (HS _ (by assumption)).mono ?_; rintro e w' ⟨rfl, hb⟩)
      | (go_at_call 9; refine (HO _ (by assumption)).mono ?_; rintro e w' ⟨rfl, hb⟩)
      | (go_at_call 11; refine (HF _ (by assumption)).mono ?_; rintro e w' ⟨rfl, hb⟩)
      | (go_at_call 49; refine (HT _ (by assumption)).mono ?_; rintro e w' ⟨rfl, hb⟩)
      | (go_at_call 31; refine (HH _ (by assumption)).mono ?_; rintro e w' ⟨rfl, hb⟩))
    go_ret
    refine ⟨ret_bool (isw_of ?_), by assumption⟩
    rw [HI.out]
    have h0 := H0.out
    simp
    try omega
set_option maxRecDepth 100000 in
theorem is_19 : IsAt 19 := by
  intro v w v0 v1
  have HS := fun w1 h => sort_bw w w1 h 19 (by decide) (by decide)
  have HO : ∀ w1, BW w w1 → _ := fun w1 h => (oc_19 w1).mono fun _ _ ⟨he, hb⟩ => And.intro he (BW.on h hb)
  have HF : ∀ w1, BW w w1 → _ := fun w1 h => (fc_19 w1).mono fun _ _ ⟨he, hb⟩ => And.intro he (BW.on h hb)
  have HT : ∀ w1, BW w w1 → _ := fun w1 h => (tu_19 w1).mono fun _ _ ⟨he, hb⟩ => And.intro he (BW.on h hb)
  have HH : ∀ w1, BW w w1 → _ := fun w1 h => (sh_19 w1).mono fun _ _ ⟨he, hb⟩ => And.intro he (BW.on h hb)
  have HV := True.intro
  have HB : BW w w := Below.refl _ _
  rw [show srt 19 = 5 by decide] at HS
  rw [show ocV 19 = 35 by decide] at HO
  rw [show f3V 19 = 1 by decide] at HF
  rw [show turB 19 = false by decide] at HT
  rw [show shV 19 = 0 by decide] at HH

  have HI : Hid (Isw v 19 ↔ v % 128 = 35 ∧ v / 4096 % 8 = 1) := by
    show _ ↔ _
    unfold Isw
    rw [show ocV 19 = 35 by decide, show f3V 19 = 1 by decide, show agV 19 = 0 by decide, show kdV 19 = 1 by decide]
    simp
    try omega
  by_cases h0 : v % 128 = 35
  · have b0 : (v % 128 != 35) = false := by simp [h0]
    have H0 := Lib.hid h0
    clear h0
    by_cases h1 : v / 4096 % 8 = 1
    · have b1 : (v / 4096 % 8 != 1) = false := by simp [h1]
      have H1 := Lib.hid h1
      clear h1
      go_enter Tryd.func28, Tryd.ntmps28
      go_wp2_with (first
        | (go_at_call 19; refine (HS _ (by assumption)).mono ?_; rintro e w' ⟨rfl, hb⟩)
        | (go_at_call 9; refine (HO _ (by assumption)).mono ?_; rintro e w' ⟨rfl, hb⟩)
        | (go_at_call 11; refine (HF _ (by assumption)).mono ?_; rintro e w' ⟨rfl, hb⟩)
        | (go_at_call 49; refine (HT _ (by assumption)).mono ?_; rintro e w' ⟨rfl, hb⟩)
        | (go_at_call 31; refine (HH _ (by assumption)).mono ?_; rintro e w' ⟨rfl, hb⟩))
      go_ret
      refine ⟨ret_bool (isw_of ?_), by assumption⟩
      rw [HI.out]
      have h0 := H0.out
      have h1 := H1.out
      simp
      try omega
    · have b1 : (v / 4096 % 8 != 1) = true := by simp [h1]
      have H1 := Lib.hid h1
      clear h1
      go_enter Tryd.func28, Tryd.ntmps28
      go_wp2_with (first
        | (go_at_call 19; refine (HS _ (by assumption)).mono ?_; rintro e w' ⟨rfl, hb⟩)
        | (go_at_call 9; refine (HO _ (by assumption)).mono ?_; rintro e w' ⟨rfl, hb⟩)
        | (go_at_call 11; refine (HF _ (by assumption)).mono ?_; rintro e w' ⟨rfl, hb⟩)
        | (go_at_call 49; refine (HT _ (by assumption)).mono ?_; rintro e w' ⟨rfl, hb⟩)
        | (go_at_call 31; refine (HH _ (by assumption)).mono ?_; rintro e w' ⟨rfl, hb⟩))
      go_ret
      refine ⟨ret_bool (isw_of ?_), by assumption⟩
      rw [HI.out]
      have h0 := H0.out
      have h1 := H1.out
      simp
      try omega
  · have b0 : (v % 128 != 35) = true := by simp [h0]
    have H0 := Lib.hid h0
    clear h0
    go_enter Tryd.func28, Tryd.ntmps28
    go_wp2_with (first
      | (go_at_call 19; refine (HS _ (by assumption)).mono ?_; rintro e w' ⟨rfl, hb⟩)
      | (go_at_call 9; refine (HO _ (by assumption)).mono ?_; rintro e w' ⟨rfl, hb⟩)
      | (go_at_call 11; refine (HF _ (by assumption)).mono ?_; rintro e w' ⟨rfl, hb⟩)
      | (go_at_call 49; refine (HT _ (by assumption)).mono ?_; rintro e w' ⟨rfl, hb⟩)
      | (go_at_call 31; refine (HH _ (by assumption)).mono ?_; rintro e w' ⟨rfl, hb⟩))
    go_ret
    refine ⟨ret_bool (isw_of ?_), by assumption⟩
    rw [HI.out]
    have h0 := H0.out
    simp
    try omega
set_option maxRecDepth 100000 in
theorem is_20 : IsAt 20 := by
  intro v w v0 v1
  have HS := fun w1 h => sort_bw w w1 h 20 (by decide) (by decide)
  have HO : ∀ w1, BW w w1 → _ := fun w1 h => (oc_20 w1).mono fun _ _ ⟨he, hb⟩ => And.intro he (BW.on h hb)
  have HF : ∀ w1, BW w w1 → _ := fun w1 h => (fc_20 w1).mono fun _ _ ⟨he, hb⟩ => And.intro he (BW.on h hb)
  have HT : ∀ w1, BW w w1 → _ := fun w1 h => (tu_20 w1).mono fun _ _ ⟨he, hb⟩ => And.intro he (BW.on h hb)
  have HH : ∀ w1, BW w w1 → _ := fun w1 h => (sh_20 w1).mono fun _ _ ⟨he, hb⟩ => And.intro he (BW.on h hb)
  have HV := True.intro
  have HB : BW w w := Below.refl _ _
  rw [show srt 20 = 5 by decide] at HS
  rw [show ocV 20 = 35 by decide] at HO
  rw [show f3V 20 = 2 by decide] at HF
  rw [show turB 20 = false by decide] at HT
  rw [show shV 20 = 0 by decide] at HH

  have HI : Hid (Isw v 20 ↔ v % 128 = 35 ∧ v / 4096 % 8 = 2) := by
    show _ ↔ _
    unfold Isw
    rw [show ocV 20 = 35 by decide, show f3V 20 = 2 by decide, show agV 20 = 0 by decide, show kdV 20 = 1 by decide]
    simp
    try omega
  by_cases h0 : v % 128 = 35
  · have b0 : (v % 128 != 35) = false := by simp [h0]
    have H0 := Lib.hid h0
    clear h0
    by_cases h1 : v / 4096 % 8 = 2
    · have b1 : (v / 4096 % 8 != 2) = false := by simp [h1]
      have H1 := Lib.hid h1
      clear h1
      go_enter Tryd.func28, Tryd.ntmps28
      go_wp2_with (first
        | (go_at_call 19; refine (HS _ (by assumption)).mono ?_; rintro e w' ⟨rfl, hb⟩)
        | (go_at_call 9; refine (HO _ (by assumption)).mono ?_; rintro e w' ⟨rfl, hb⟩)
        | (go_at_call 11; refine (HF _ (by assumption)).mono ?_; rintro e w' ⟨rfl, hb⟩)
        | (go_at_call 49; refine (HT _ (by assumption)).mono ?_; rintro e w' ⟨rfl, hb⟩)
        | (go_at_call 31; refine (HH _ (by assumption)).mono ?_; rintro e w' ⟨rfl, hb⟩))
      go_ret
      refine ⟨ret_bool (isw_of ?_), by assumption⟩
      rw [HI.out]
      have h0 := H0.out
      have h1 := H1.out
      simp
      try omega
    · have b1 : (v / 4096 % 8 != 2) = true := by simp [h1]
      have H1 := Lib.hid h1
      clear h1
      go_enter Tryd.func28, Tryd.ntmps28
      go_wp2_with (first
        | (go_at_call 19; refine (HS _ (by assumption)).mono ?_; rintro e w' ⟨rfl, hb⟩)
        | (go_at_call 9; refine (HO _ (by assumption)).mono ?_; rintro e w' ⟨rfl, hb⟩)
        | (go_at_call 11; refine (HF _ (by assumption)).mono ?_; rintro e w' ⟨rfl, hb⟩)
        | (go_at_call 49; refine (HT _ (by assumption)).mono ?_; rintro e w' ⟨rfl, hb⟩)
        | (go_at_call 31; refine (HH _ (by assumption)).mono ?_; rintro e w' ⟨rfl, hb⟩))
      go_ret
      refine ⟨ret_bool (isw_of ?_), by assumption⟩
      rw [HI.out]
      have h0 := H0.out
      have h1 := H1.out
      simp
      try omega
  · have b0 : (v % 128 != 35) = true := by simp [h0]
    have H0 := Lib.hid h0
    clear h0
    go_enter Tryd.func28, Tryd.ntmps28
    go_wp2_with (first
      | (go_at_call 19; refine (HS _ (by assumption)).mono ?_; rintro e w' ⟨rfl, hb⟩)
      | (go_at_call 9; refine (HO _ (by assumption)).mono ?_; rintro e w' ⟨rfl, hb⟩)
      | (go_at_call 11; refine (HF _ (by assumption)).mono ?_; rintro e w' ⟨rfl, hb⟩)
      | (go_at_call 49; refine (HT _ (by assumption)).mono ?_; rintro e w' ⟨rfl, hb⟩)
      | (go_at_call 31; refine (HH _ (by assumption)).mono ?_; rintro e w' ⟨rfl, hb⟩))
    go_ret
    refine ⟨ret_bool (isw_of ?_), by assumption⟩
    rw [HI.out]
    have h0 := H0.out
    simp
    try omega
set_option maxRecDepth 100000 in
theorem is_21 : IsAt 21 := by
  intro v w v0 v1
  have HS := fun w1 h => sort_bw w w1 h 21 (by decide) (by decide)
  have HO : ∀ w1, BW w w1 → _ := fun w1 h => (oc_21 w1).mono fun _ _ ⟨he, hb⟩ => And.intro he (BW.on h hb)
  have HF : ∀ w1, BW w w1 → _ := fun w1 h => (fc_21 w1).mono fun _ _ ⟨he, hb⟩ => And.intro he (BW.on h hb)
  have HT : ∀ w1, BW w w1 → _ := fun w1 h => (tu_21 w1).mono fun _ _ ⟨he, hb⟩ => And.intro he (BW.on h hb)
  have HH : ∀ w1, BW w w1 → _ := fun w1 h => (sh_21 w1).mono fun _ _ ⟨he, hb⟩ => And.intro he (BW.on h hb)
  have HV := True.intro
  have HB : BW w w := Below.refl _ _
  rw [show srt 21 = 5 by decide] at HS
  rw [show ocV 21 = 35 by decide] at HO
  rw [show f3V 21 = 3 by decide] at HF
  rw [show turB 21 = false by decide] at HT
  rw [show shV 21 = 0 by decide] at HH

  have HI : Hid (Isw v 21 ↔ v % 128 = 35 ∧ v / 4096 % 8 = 3) := by
    show _ ↔ _
    unfold Isw
    rw [show ocV 21 = 35 by decide, show f3V 21 = 3 by decide, show agV 21 = 0 by decide, show kdV 21 = 1 by decide]
    simp
    try omega
  by_cases h0 : v % 128 = 35
  · have b0 : (v % 128 != 35) = false := by simp [h0]
    have H0 := Lib.hid h0
    clear h0
    by_cases h1 : v / 4096 % 8 = 3
    · have b1 : (v / 4096 % 8 != 3) = false := by simp [h1]
      have H1 := Lib.hid h1
      clear h1
      go_enter Tryd.func28, Tryd.ntmps28
      go_wp2_with (first
        | (go_at_call 19; refine (HS _ (by assumption)).mono ?_; rintro e w' ⟨rfl, hb⟩)
        | (go_at_call 9; refine (HO _ (by assumption)).mono ?_; rintro e w' ⟨rfl, hb⟩)
        | (go_at_call 11; refine (HF _ (by assumption)).mono ?_; rintro e w' ⟨rfl, hb⟩)
        | (go_at_call 49; refine (HT _ (by assumption)).mono ?_; rintro e w' ⟨rfl, hb⟩)
        | (go_at_call 31; refine (HH _ (by assumption)).mono ?_; rintro e w' ⟨rfl, hb⟩))
      go_ret
      refine ⟨ret_bool (isw_of ?_), by assumption⟩
      rw [HI.out]
      have h0 := H0.out
      have h1 := H1.out
      simp
      try omega
    · have b1 : (v / 4096 % 8 != 3) = true := by simp [h1]
      have H1 := Lib.hid h1
      clear h1
      go_enter Tryd.func28, Tryd.ntmps28
      go_wp2_with (first
        | (go_at_call 19; refine (HS _ (by assumption)).mono ?_; rintro e w' ⟨rfl, hb⟩)
        | (go_at_call 9; refine (HO _ (by assumption)).mono ?_; rintro e w' ⟨rfl, hb⟩)
        | (go_at_call 11; refine (HF _ (by assumption)).mono ?_; rintro e w' ⟨rfl, hb⟩)
        | (go_at_call 49; refine (HT _ (by assumption)).mono ?_; rintro e w' ⟨rfl, hb⟩)
        | (go_at_call 31; refine (HH _ (by assumption)).mono ?_; rintro e w' ⟨rfl, hb⟩))
      go_ret
      refine ⟨ret_bool (isw_of ?_), by assumption⟩
      rw [HI.out]
      have h0 := H0.out
      have h1 := H1.out
      simp
      try omega
  · have b0 : (v % 128 != 35) = true := by simp [h0]
    have H0 := Lib.hid h0
    clear h0
    go_enter Tryd.func28, Tryd.ntmps28
    go_wp2_with (first
      | (go_at_call 19; refine (HS _ (by assumption)).mono ?_; rintro e w' ⟨rfl, hb⟩)
      | (go_at_call 9; refine (HO _ (by assumption)).mono ?_; rintro e w' ⟨rfl, hb⟩)
      | (go_at_call 11; refine (HF _ (by assumption)).mono ?_; rintro e w' ⟨rfl, hb⟩)
      | (go_at_call 49; refine (HT _ (by assumption)).mono ?_; rintro e w' ⟨rfl, hb⟩)
      | (go_at_call 31; refine (HH _ (by assumption)).mono ?_; rintro e w' ⟨rfl, hb⟩))
    go_ret
    refine ⟨ret_bool (isw_of ?_), by assumption⟩
    rw [HI.out]
    have h0 := H0.out
    simp
    try omega
set_option maxRecDepth 100000 in
theorem is_22 : IsAt 22 := by
  intro v w v0 v1
  have HS := fun w1 h => sort_bw w w1 h 22 (by decide) (by decide)
  have HO : ∀ w1, BW w w1 → _ := fun w1 h => (oc_22 w1).mono fun _ _ ⟨he, hb⟩ => And.intro he (BW.on h hb)
  have HF : ∀ w1, BW w w1 → _ := fun w1 h => (fc_22 w1).mono fun _ _ ⟨he, hb⟩ => And.intro he (BW.on h hb)
  have HT : ∀ w1, BW w w1 → _ := fun w1 h => (tu_22 w1).mono fun _ _ ⟨he, hb⟩ => And.intro he (BW.on h hb)
  have HH : ∀ w1, BW w w1 → _ := fun w1 h => (sh_22 w1).mono fun _ _ ⟨he, hb⟩ => And.intro he (BW.on h hb)
  have HV := True.intro
  have HB : BW w w := Below.refl _ _
  rw [show srt 22 = 6 by decide] at HS
  rw [show ocV 22 = 19 by decide] at HO
  rw [show f3V 22 = 0 by decide] at HF
  rw [show turB 22 = false by decide] at HT
  rw [show shV 22 = 0 by decide] at HH

  have HI : Hid (Isw v 22 ↔ v % 128 = 19 ∧ v / 4096 % 8 = 0) := by
    show _ ↔ _
    unfold Isw
    rw [show ocV 22 = 19 by decide, show f3V 22 = 0 by decide, show agV 22 = 0 by decide, show kdV 22 = 1 by decide]
    simp
    try omega
  by_cases h0 : v % 128 = 19
  · have b0 : (v % 128 != 19) = false := by simp [h0]
    have H0 := Lib.hid h0
    clear h0
    by_cases h1 : v / 4096 % 8 = 0
    · have b1 : (v / 4096 % 8 != 0) = false := by simp [h1]
      have H1 := Lib.hid h1
      clear h1
      go_enter Tryd.func28, Tryd.ntmps28
      go_wp2_with (first
        | (go_at_call 19; refine (HS _ (by assumption)).mono ?_; rintro e w' ⟨rfl, hb⟩)
        | (go_at_call 9; refine (HO _ (by assumption)).mono ?_; rintro e w' ⟨rfl, hb⟩)
        | (go_at_call 11; refine (HF _ (by assumption)).mono ?_; rintro e w' ⟨rfl, hb⟩)
        | (go_at_call 49; refine (HT _ (by assumption)).mono ?_; rintro e w' ⟨rfl, hb⟩)
        | (go_at_call 31; refine (HH _ (by assumption)).mono ?_; rintro e w' ⟨rfl, hb⟩))
      go_ret
      refine ⟨ret_bool (isw_of ?_), by assumption⟩
      rw [HI.out]
      have h0 := H0.out
      have h1 := H1.out
      simp
      try omega
    · have b1 : (v / 4096 % 8 != 0) = true := by simp [h1]
      have H1 := Lib.hid h1
      clear h1
      go_enter Tryd.func28, Tryd.ntmps28
      go_wp2_with (first
        | (go_at_call 19; refine (HS _ (by assumption)).mono ?_; rintro e w' ⟨rfl, hb⟩)
        | (go_at_call 9; refine (HO _ (by assumption)).mono ?_; rintro e w' ⟨rfl, hb⟩)
        | (go_at_call 11; refine (HF _ (by assumption)).mono ?_; rintro e w' ⟨rfl, hb⟩)
        | (go_at_call 49; refine (HT _ (by assumption)).mono ?_; rintro e w' ⟨rfl, hb⟩)
        | (go_at_call 31; refine (HH _ (by assumption)).mono ?_; rintro e w' ⟨rfl, hb⟩))
      go_ret
      refine ⟨ret_bool (isw_of ?_), by assumption⟩
      rw [HI.out]
      have h0 := H0.out
      have h1 := H1.out
      simp
      try omega
  · have b0 : (v % 128 != 19) = true := by simp [h0]
    have H0 := Lib.hid h0
    clear h0
    go_enter Tryd.func28, Tryd.ntmps28
    go_wp2_with (first
      | (go_at_call 19; refine (HS _ (by assumption)).mono ?_; rintro e w' ⟨rfl, hb⟩)
      | (go_at_call 9; refine (HO _ (by assumption)).mono ?_; rintro e w' ⟨rfl, hb⟩)
      | (go_at_call 11; refine (HF _ (by assumption)).mono ?_; rintro e w' ⟨rfl, hb⟩)
      | (go_at_call 49; refine (HT _ (by assumption)).mono ?_; rintro e w' ⟨rfl, hb⟩)
      | (go_at_call 31; refine (HH _ (by assumption)).mono ?_; rintro e w' ⟨rfl, hb⟩))
    go_ret
    refine ⟨ret_bool (isw_of ?_), by assumption⟩
    rw [HI.out]
    have h0 := H0.out
    simp
    try omega
set_option maxRecDepth 100000 in
theorem is_23 : IsAt 23 := by
  intro v w v0 v1
  have HS := fun w1 h => sort_bw w w1 h 23 (by decide) (by decide)
  have HO : ∀ w1, BW w w1 → _ := fun w1 h => (oc_23 w1).mono fun _ _ ⟨he, hb⟩ => And.intro he (BW.on h hb)
  have HF : ∀ w1, BW w w1 → _ := fun w1 h => (fc_23 w1).mono fun _ _ ⟨he, hb⟩ => And.intro he (BW.on h hb)
  have HT : ∀ w1, BW w w1 → _ := fun w1 h => (tu_23 w1).mono fun _ _ ⟨he, hb⟩ => And.intro he (BW.on h hb)
  have HH : ∀ w1, BW w w1 → _ := fun w1 h => (sh_23 w1).mono fun _ _ ⟨he, hb⟩ => And.intro he (BW.on h hb)
  have HV := True.intro
  have HB : BW w w := Below.refl _ _
  rw [show srt 23 = 6 by decide] at HS
  rw [show ocV 23 = 19 by decide] at HO
  rw [show f3V 23 = 2 by decide] at HF
  rw [show turB 23 = false by decide] at HT
  rw [show shV 23 = 0 by decide] at HH

  have HI : Hid (Isw v 23 ↔ v % 128 = 19 ∧ v / 4096 % 8 = 2) := by
    show _ ↔ _
    unfold Isw
    rw [show ocV 23 = 19 by decide, show f3V 23 = 2 by decide, show agV 23 = 0 by decide, show kdV 23 = 1 by decide]
    simp
    try omega
  by_cases h0 : v % 128 = 19
  · have b0 : (v % 128 != 19) = false := by simp [h0]
    have H0 := Lib.hid h0
    clear h0
    by_cases h1 : v / 4096 % 8 = 2
    · have b1 : (v / 4096 % 8 != 2) = false := by simp [h1]
      have H1 := Lib.hid h1
      clear h1
      go_enter Tryd.func28, Tryd.ntmps28
      go_wp2_with (first
        | (go_at_call 19; refine (HS _ (by assumption)).mono ?_; rintro e w' ⟨rfl, hb⟩)
        | (go_at_call 9; refine (HO _ (by assumption)).mono ?_; rintro e w' ⟨rfl, hb⟩)
        | (go_at_call 11; refine (HF _ (by assumption)).mono ?_; rintro e w' ⟨rfl, hb⟩)
        | (go_at_call 49; refine (HT _ (by assumption)).mono ?_; rintro e w' ⟨rfl, hb⟩)
        | (go_at_call 31; refine (HH _ (by assumption)).mono ?_; rintro e w' ⟨rfl, hb⟩))
      go_ret
      refine ⟨ret_bool (isw_of ?_), by assumption⟩
      rw [HI.out]
      have h0 := H0.out
      have h1 := H1.out
      simp
      try omega
    · have b1 : (v / 4096 % 8 != 2) = true := by simp [h1]
      have H1 := Lib.hid h1
      clear h1
      go_enter Tryd.func28, Tryd.ntmps28
      go_wp2_with (first
        | (go_at_call 19; refine (HS _ (by assumption)).mono ?_; rintro e w' ⟨rfl, hb⟩)
        | (go_at_call 9; refine (HO _ (by assumption)).mono ?_; rintro e w' ⟨rfl, hb⟩)
        | (go_at_call 11; refine (HF _ (by assumption)).mono ?_; rintro e w' ⟨rfl, hb⟩)
        | (go_at_call 49; refine (HT _ (by assumption)).mono ?_; rintro e w' ⟨rfl, hb⟩)
        | (go_at_call 31; refine (HH _ (by assumption)).mono ?_; rintro e w' ⟨rfl, hb⟩))
      go_ret
      refine ⟨ret_bool (isw_of ?_), by assumption⟩
      rw [HI.out]
      have h0 := H0.out
      have h1 := H1.out
      simp
      try omega
  · have b0 : (v % 128 != 19) = true := by simp [h0]
    have H0 := Lib.hid h0
    clear h0
    go_enter Tryd.func28, Tryd.ntmps28
    go_wp2_with (first
      | (go_at_call 19; refine (HS _ (by assumption)).mono ?_; rintro e w' ⟨rfl, hb⟩)
      | (go_at_call 9; refine (HO _ (by assumption)).mono ?_; rintro e w' ⟨rfl, hb⟩)
      | (go_at_call 11; refine (HF _ (by assumption)).mono ?_; rintro e w' ⟨rfl, hb⟩)
      | (go_at_call 49; refine (HT _ (by assumption)).mono ?_; rintro e w' ⟨rfl, hb⟩)
      | (go_at_call 31; refine (HH _ (by assumption)).mono ?_; rintro e w' ⟨rfl, hb⟩))
    go_ret
    refine ⟨ret_bool (isw_of ?_), by assumption⟩
    rw [HI.out]
    have h0 := H0.out
    simp
    try omega
set_option maxRecDepth 100000 in
theorem is_24 : IsAt 24 := by
  intro v w v0 v1
  have HS := fun w1 h => sort_bw w w1 h 24 (by decide) (by decide)
  have HO : ∀ w1, BW w w1 → _ := fun w1 h => (oc_24 w1).mono fun _ _ ⟨he, hb⟩ => And.intro he (BW.on h hb)
  have HF : ∀ w1, BW w w1 → _ := fun w1 h => (fc_24 w1).mono fun _ _ ⟨he, hb⟩ => And.intro he (BW.on h hb)
  have HT : ∀ w1, BW w w1 → _ := fun w1 h => (tu_24 w1).mono fun _ _ ⟨he, hb⟩ => And.intro he (BW.on h hb)
  have HH : ∀ w1, BW w w1 → _ := fun w1 h => (sh_24 w1).mono fun _ _ ⟨he, hb⟩ => And.intro he (BW.on h hb)
  have HV := True.intro
  have HB : BW w w := Below.refl _ _
  rw [show srt 24 = 6 by decide] at HS
  rw [show ocV 24 = 19 by decide] at HO
  rw [show f3V 24 = 3 by decide] at HF
  rw [show turB 24 = false by decide] at HT
  rw [show shV 24 = 0 by decide] at HH

  have HI : Hid (Isw v 24 ↔ v % 128 = 19 ∧ v / 4096 % 8 = 3) := by
    show _ ↔ _
    unfold Isw
    rw [show ocV 24 = 19 by decide, show f3V 24 = 3 by decide, show agV 24 = 0 by decide, show kdV 24 = 1 by decide]
    simp
    try omega
  by_cases h0 : v % 128 = 19
  · have b0 : (v % 128 != 19) = false := by simp [h0]
    have H0 := Lib.hid h0
    clear h0
    by_cases h1 : v / 4096 % 8 = 3
    · have b1 : (v / 4096 % 8 != 3) = false := by simp [h1]
      have H1 := Lib.hid h1
      clear h1
      go_enter Tryd.func28, Tryd.ntmps28
      go_wp2_with (first
        | (go_at_call 19; refine (HS _ (by assumption)).mono ?_; rintro e w' ⟨rfl, hb⟩)
        | (go_at_call 9; refine (HO _ (by assumption)).mono ?_; rintro e w' ⟨rfl, hb⟩)
        | (go_at_call 11; refine (HF _ (by assumption)).mono ?_; rintro e w' ⟨rfl, hb⟩)
        | (go_at_call 49; refine (HT _ (by assumption)).mono ?_; rintro e w' ⟨rfl, hb⟩)
        | (go_at_call 31; refine (HH _ (by assumption)).mono ?_; rintro e w' ⟨rfl, hb⟩))
      go_ret
      refine ⟨ret_bool (isw_of ?_), by assumption⟩
      rw [HI.out]
      have h0 := H0.out
      have h1 := H1.out
      simp
      try omega
    · have b1 : (v / 4096 % 8 != 3) = true := by simp [h1]
      have H1 := Lib.hid h1
      clear h1
      go_enter Tryd.func28, Tryd.ntmps28
      go_wp2_with (first
        | (go_at_call 19; refine (HS _ (by assumption)).mono ?_; rintro e w' ⟨rfl, hb⟩)
        | (go_at_call 9; refine (HO _ (by assumption)).mono ?_; rintro e w' ⟨rfl, hb⟩)
        | (go_at_call 11; refine (HF _ (by assumption)).mono ?_; rintro e w' ⟨rfl, hb⟩)
        | (go_at_call 49; refine (HT _ (by assumption)).mono ?_; rintro e w' ⟨rfl, hb⟩)
        | (go_at_call 31; refine (HH _ (by assumption)).mono ?_; rintro e w' ⟨rfl, hb⟩))
      go_ret
      refine ⟨ret_bool (isw_of ?_), by assumption⟩
      rw [HI.out]
      have h0 := H0.out
      have h1 := H1.out
      simp
      try omega
  · have b0 : (v % 128 != 19) = true := by simp [h0]
    have H0 := Lib.hid h0
    clear h0
    go_enter Tryd.func28, Tryd.ntmps28
    go_wp2_with (first
      | (go_at_call 19; refine (HS _ (by assumption)).mono ?_; rintro e w' ⟨rfl, hb⟩)
      | (go_at_call 9; refine (HO _ (by assumption)).mono ?_; rintro e w' ⟨rfl, hb⟩)
      | (go_at_call 11; refine (HF _ (by assumption)).mono ?_; rintro e w' ⟨rfl, hb⟩)
      | (go_at_call 49; refine (HT _ (by assumption)).mono ?_; rintro e w' ⟨rfl, hb⟩)
      | (go_at_call 31; refine (HH _ (by assumption)).mono ?_; rintro e w' ⟨rfl, hb⟩))
    go_ret
    refine ⟨ret_bool (isw_of ?_), by assumption⟩
    rw [HI.out]
    have h0 := H0.out
    simp
    try omega
set_option maxRecDepth 100000 in
theorem is_25 : IsAt 25 := by
  intro v w v0 v1
  have HS := fun w1 h => sort_bw w w1 h 25 (by decide) (by decide)
  have HO : ∀ w1, BW w w1 → _ := fun w1 h => (oc_25 w1).mono fun _ _ ⟨he, hb⟩ => And.intro he (BW.on h hb)
  have HF : ∀ w1, BW w w1 → _ := fun w1 h => (fc_25 w1).mono fun _ _ ⟨he, hb⟩ => And.intro he (BW.on h hb)
  have HT : ∀ w1, BW w w1 → _ := fun w1 h => (tu_25 w1).mono fun _ _ ⟨he, hb⟩ => And.intro he (BW.on h hb)
  have HH : ∀ w1, BW w w1 → _ := fun w1 h => (sh_25 w1).mono fun _ _ ⟨he, hb⟩ => And.intro he (BW.on h hb)
  have HV := True.intro
  have HB : BW w w := Below.refl _ _
  rw [show srt 25 = 6 by decide] at HS
  rw [show ocV 25 = 19 by decide] at HO
  rw [show f3V 25 = 4 by decide] at HF
  rw [show turB 25 = false by decide] at HT
  rw [show shV 25 = 0 by decide] at HH

  have HI : Hid (Isw v 25 ↔ v % 128 = 19 ∧ v / 4096 % 8 = 4) := by
    show _ ↔ _
    unfold Isw
    rw [show ocV 25 = 19 by decide, show f3V 25 = 4 by decide, show agV 25 = 0 by decide, show kdV 25 = 1 by decide]
    simp
    try omega
  by_cases h0 : v % 128 = 19
  · have b0 : (v % 128 != 19) = false := by simp [h0]
    have H0 := Lib.hid h0
    clear h0
    by_cases h1 : v / 4096 % 8 = 4
    · have b1 : (v / 4096 % 8 != 4) = false := by simp [h1]
      have H1 := Lib.hid h1
      clear h1
      go_enter Tryd.func28, Tryd.ntmps28
      go_wp2_with (first
        | (go_at_call 19; refine (HS _ (by assumption)).mono ?_; rintro e w' ⟨rfl, hb⟩)
        | (go_at_call 9; refine (HO _ (by assumption)).mono ?_; rintro e w' ⟨rfl, hb⟩)
        | (go_at_call 11; refine (HF _ (by assumption)).mono ?_; rintro e w' ⟨rfl, hb⟩)
        | (go_at_call 49; refine (HT _ (by assumption)).mono ?_; rintro e w' ⟨rfl, hb⟩)
        | (go_at_call 31; refine (HH _ (by assumption)).mono ?_; rintro e w' ⟨rfl, hb⟩))
      go_ret
      refine ⟨ret_bool (isw_of ?_), by assumption⟩
      rw [HI.out]
      have h0 := H0.out
      have h1 := H1.out
      simp
      try omega
    · have b1 : (v / 4096 % 8 != 4) = true := by simp [h1]
      have H1 := Lib.hid h1
      clear h1
      go_enter Tryd.func28, Tryd.ntmps28
      go_wp2_with (first
        | (go_at_call 19; refine (HS _ (by assumption)).mono ?_; rintro e w' ⟨rfl, hb⟩)
        | (go_at_call 9; refine (HO _ (by assumption)).mono ?_; rintro e w' ⟨rfl, hb⟩)
        | (go_at_call 11; refine (HF _ (by assumption)).mono ?_; rintro e w' ⟨rfl, hb⟩)
        | (go_at_call 49; refine (HT _ (by assumption)).mono ?_; rintro e w' ⟨rfl, hb⟩)
        | (go_at_call 31; refine (HH _ (by assumption)).mono ?_; rintro e w' ⟨rfl, hb⟩))
      go_ret
      refine ⟨ret_bool (isw_of ?_), by assumption⟩
      rw [HI.out]
      have h0 := H0.out
      have h1 := H1.out
      simp
      try omega
  · have b0 : (v % 128 != 19) = true := by simp [h0]
    have H0 := Lib.hid h0
    clear h0
    go_enter Tryd.func28, Tryd.ntmps28
    go_wp2_with (first
      | (go_at_call 19; refine (HS _ (by assumption)).mono ?_; rintro e w' ⟨rfl, hb⟩)
      | (go_at_call 9; refine (HO _ (by assumption)).mono ?_; rintro e w' ⟨rfl, hb⟩)
      | (go_at_call 11; refine (HF _ (by assumption)).mono ?_; rintro e w' ⟨rfl, hb⟩)
      | (go_at_call 49; refine (HT _ (by assumption)).mono ?_; rintro e w' ⟨rfl, hb⟩)
      | (go_at_call 31; refine (HH _ (by assumption)).mono ?_; rintro e w' ⟨rfl, hb⟩))
    go_ret
    refine ⟨ret_bool (isw_of ?_), by assumption⟩
    rw [HI.out]
    have h0 := H0.out
    simp
    try omega
set_option maxRecDepth 100000 in
theorem is_26 : IsAt 26 := by
  intro v w v0 v1
  have HS := fun w1 h => sort_bw w w1 h 26 (by decide) (by decide)
  have HO : ∀ w1, BW w w1 → _ := fun w1 h => (oc_26 w1).mono fun _ _ ⟨he, hb⟩ => And.intro he (BW.on h hb)
  have HF : ∀ w1, BW w w1 → _ := fun w1 h => (fc_26 w1).mono fun _ _ ⟨he, hb⟩ => And.intro he (BW.on h hb)
  have HT : ∀ w1, BW w w1 → _ := fun w1 h => (tu_26 w1).mono fun _ _ ⟨he, hb⟩ => And.intro he (BW.on h hb)
  have HH : ∀ w1, BW w w1 → _ := fun w1 h => (sh_26 w1).mono fun _ _ ⟨he, hb⟩ => And.intro he (BW.on h hb)
  have HV := True.intro
  have HB : BW w w := Below.refl _ _
  rw [show srt 26 = 6 by decide] at HS
  rw [show ocV 26 = 19 by decide] at HO
  rw [show f3V 26 = 6 by decide] at HF
  rw [show turB 26 = false by decide] at HT
  rw [show shV 26 = 0 by decide] at HH

  have HI : Hid (Isw v 26 ↔ v % 128 = 19 ∧ v / 4096 % 8 = 6) := by
    show _ ↔ _
    unfold Isw
    rw [show ocV 26 = 19 by decide, show f3V 26 = 6 by decide, show agV 26 = 0 by decide, show kdV 26 = 1 by decide]
    simp
    try omega
  by_cases h0 : v % 128 = 19
  · have b0 : (v % 128 != 19) = false := by simp [h0]
    have H0 := Lib.hid h0
    clear h0
    by_cases h1 : v / 4096 % 8 = 6
    · have b1 : (v / 4096 % 8 != 6) = false := by simp [h1]
      have H1 := Lib.hid h1
      clear h1
      go_enter Tryd.func28, Tryd.ntmps28
      go_wp2_with (first
        | (go_at_call 19; refine (HS _ (by assumption)).mono ?_; rintro e w' ⟨rfl, hb⟩)
        | (go_at_call 9; refine (HO _ (by assumption)).mono ?_; rintro e w' ⟨rfl, hb⟩)
        | (go_at_call 11; refine (HF _ (by assumption)).mono ?_; rintro e w' ⟨rfl, hb⟩)
        | (go_at_call 49; refine (HT _ (by assumption)).mono ?_; rintro e w' ⟨rfl, hb⟩)
        | (go_at_call 31; refine (HH _ (by assumption)).mono ?_; rintro e w' ⟨rfl, hb⟩))
      go_ret
      refine ⟨ret_bool (isw_of ?_), by assumption⟩
      rw [HI.out]
      have h0 := H0.out
      have h1 := H1.out
      simp
      try omega
    · have b1 : (v / 4096 % 8 != 6) = true := by simp [h1]
      have H1 := Lib.hid h1
      clear h1
      go_enter Tryd.func28, Tryd.ntmps28
      go_wp2_with (first
        | (go_at_call 19; refine (HS _ (by assumption)).mono ?_; rintro e w' ⟨rfl, hb⟩)
        | (go_at_call 9; refine (HO _ (by assumption)).mono ?_; rintro e w' ⟨rfl, hb⟩)
        | (go_at_call 11; refine (HF _ (by assumption)).mono ?_; rintro e w' ⟨rfl, hb⟩)
        | (go_at_call 49; refine (HT _ (by assumption)).mono ?_; rintro e w' ⟨rfl, hb⟩)
        | (go_at_call 31; refine (HH _ (by assumption)).mono ?_; rintro e w' ⟨rfl, hb⟩))
      go_ret
      refine ⟨ret_bool (isw_of ?_), by assumption⟩
      rw [HI.out]
      have h0 := H0.out
      have h1 := H1.out
      simp
      try omega
  · have b0 : (v % 128 != 19) = true := by simp [h0]
    have H0 := Lib.hid h0
    clear h0
    go_enter Tryd.func28, Tryd.ntmps28
    go_wp2_with (first
      | (go_at_call 19; refine (HS _ (by assumption)).mono ?_; rintro e w' ⟨rfl, hb⟩)
      | (go_at_call 9; refine (HO _ (by assumption)).mono ?_; rintro e w' ⟨rfl, hb⟩)
      | (go_at_call 11; refine (HF _ (by assumption)).mono ?_; rintro e w' ⟨rfl, hb⟩)
      | (go_at_call 49; refine (HT _ (by assumption)).mono ?_; rintro e w' ⟨rfl, hb⟩)
      | (go_at_call 31; refine (HH _ (by assumption)).mono ?_; rintro e w' ⟨rfl, hb⟩))
    go_ret
    refine ⟨ret_bool (isw_of ?_), by assumption⟩
    rw [HI.out]
    have h0 := H0.out
    simp
    try omega
set_option maxRecDepth 100000 in
theorem is_27 : IsAt 27 := by
  intro v w v0 v1
  have HS := fun w1 h => sort_bw w w1 h 27 (by decide) (by decide)
  have HO : ∀ w1, BW w w1 → _ := fun w1 h => (oc_27 w1).mono fun _ _ ⟨he, hb⟩ => And.intro he (BW.on h hb)
  have HF : ∀ w1, BW w w1 → _ := fun w1 h => (fc_27 w1).mono fun _ _ ⟨he, hb⟩ => And.intro he (BW.on h hb)
  have HT : ∀ w1, BW w w1 → _ := fun w1 h => (tu_27 w1).mono fun _ _ ⟨he, hb⟩ => And.intro he (BW.on h hb)
  have HH : ∀ w1, BW w w1 → _ := fun w1 h => (sh_27 w1).mono fun _ _ ⟨he, hb⟩ => And.intro he (BW.on h hb)
  have HV := True.intro
  have HB : BW w w := Below.refl _ _
  rw [show srt 27 = 6 by decide] at HS
  rw [show ocV 27 = 19 by decide] at HO
  rw [show f3V 27 = 7 by decide] at HF
  rw [show turB 27 = false by decide] at HT
  rw [show shV 27 = 0 by decide] at HH

  have HI : Hid (Isw v 27 ↔ v % 128 = 19 ∧ v / 4096 % 8 = 7) := by
    show _ ↔ _
    unfold Isw
    rw [show ocV 27 = 19 by decide, show f3V 27 = 7 by decide, show agV 27 = 0 by decide, show kdV 27 = 1 by decide]
    simp
    try omega
  by_cases h0 : v % 128 = 19
  · have b0 : (v % 128 != 19) = false := by simp [h0]
    have H0 := Lib.hid h0
    clear h0
    by_cases h1 : v / 4096 % 8 = 7
    · have b1 : (v / 4096 % 8 != 7) = false := by simp [h1]
      have H1 := Lib.hid h1
      clear h1
      go_enter Tryd.func28, Tryd.ntmps28
      go_wp2_with (first
        | (go_at_call 19; refine (HS _ (by assumption)).mono ?_; rintro e w' ⟨rfl, hb⟩)
        | (go_at_call 9; refine (HO _ (by assumption)).mono ?_; rintro e w' ⟨rfl, hb⟩)
        | (go_at_call 11; refine (HF _ (by assumption)).mono ?_; rintro e w' ⟨rfl, hb⟩)
        | (go_at_call 49; refine (HT _ (by assumption)).mono ?_; rintro e w' ⟨rfl, hb⟩)
        | (go_at_call 31; refine (HH _ (by assumption)).mono ?_; rintro e w' ⟨rfl, hb⟩))
      go_ret
      refine ⟨ret_bool (isw_of ?_), by assumption⟩
      rw [HI.out]
      have h0 := H0.out
      have h1 := H1.out
      simp
      try omega
    · have b1 : (v / 4096 % 8 != 7) = true := by simp [h1]
      have H1 := Lib.hid h1
      clear h1
      go_enter Tryd.func28, Tryd.ntmps28
      go_wp2_with (first
        | (go_at_call 19; refine (HS _ (by assumption)).mono ?_; rintro e w' ⟨rfl, hb⟩)
        | (go_at_call 9; refine (HO _ (by assumption)).mono ?_; rintro e w' ⟨rfl, hb⟩)
        | (go_at_call 11; refine (HF _ (by assumption)).mono ?_; rintro e w' ⟨rfl, hb⟩)
        | (go_at_call 49; refine (HT _ (by assumption)).mono ?_; rintro e w' ⟨rfl, hb⟩)
        | (go_at_call 31; refine (HH _ (by assumption)).mono ?_; rintro e w' ⟨rfl, hb⟩))
      go_ret
      refine ⟨ret_bool (isw_of ?_), by assumption⟩
      rw [HI.out]
      have h0 := H0.out
      have h1 := H1.out
      simp
      try omega
  · have b0 : (v % 128 != 19) = true := by simp [h0]
    have H0 := Lib.hid h0
    clear h0
    go_enter Tryd.func28, Tryd.ntmps28
    go_wp2_with (first
      | (go_at_call 19; refine (HS _ (by assumption)).mono ?_; rintro e w' ⟨rfl, hb⟩)
      | (go_at_call 9; refine (HO _ (by assumption)).mono ?_; rintro e w' ⟨rfl, hb⟩)
      | (go_at_call 11; refine (HF _ (by assumption)).mono ?_; rintro e w' ⟨rfl, hb⟩)
      | (go_at_call 49; refine (HT _ (by assumption)).mono ?_; rintro e w' ⟨rfl, hb⟩)
      | (go_at_call 31; refine (HH _ (by assumption)).mono ?_; rintro e w' ⟨rfl, hb⟩))
    go_ret
    refine ⟨ret_bool (isw_of ?_), by assumption⟩
    rw [HI.out]
    have h0 := H0.out
    simp
    try omega
set_option maxRecDepth 100000 in
theorem is_28 : IsAt 28 := by
  intro v w v0 v1
  have HS := fun w1 h => sort_bw w w1 h 28 (by decide) (by decide)
  have HO : ∀ w1, BW w w1 → _ := fun w1 h => (oc_28 w1).mono fun _ _ ⟨he, hb⟩ => And.intro he (BW.on h hb)
  have HF : ∀ w1, BW w w1 → _ := fun w1 h => (fc_28 w1).mono fun _ _ ⟨he, hb⟩ => And.intro he (BW.on h hb)
  have HT : ∀ w1, BW w w1 → _ := fun w1 h => (tu_28 w1).mono fun _ _ ⟨he, hb⟩ => And.intro he (BW.on h hb)
  have HH : ∀ w1, BW w w1 → _ := fun w1 h => (sh_28 w1).mono fun _ _ ⟨he, hb⟩ => And.intro he (BW.on h hb)
  have HV := True.intro
  have HB : BW w w := Below.refl _ _
  rw [show srt 28 = 6 by decide] at HS
  rw [show ocV 28 = 19 by decide] at HO
  rw [show f3V 28 = 1 by decide] at HF
  rw [show turB 28 = false by decide] at HT
  rw [show shV 28 = 6 by decide] at HH

  have HI : Hid (Isw v 28 ↔ v % 128 = 19 ∧ v / 4096 % 8 = 1 ∧ v / 33554432 / 2 = 0) := by
    show _ ↔ _
    unfold Isw
    rw [show ocV 28 = 19 by decide, show f3V 28 = 1 by decide, show agV 28 = 0 by decide, show kdV 28 = 3 by decide]
    simp
    try omega
  by_cases h0 : v % 128 = 19
  · have b0 : (v % 128 != 19) = false := by simp [h0]
    have H0 := Lib.hid h0
    clear h0
    by_cases h1 : v / 4096 % 8 = 1
    · have b1 : (v / 4096 % 8 != 1) = false := by simp [h1]
      have H1 := Lib.hid h1
      clear h1
      go_enter Tryd.func28, Tryd.ntmps28
      go_wp2_with (first
        | (go_at_call 19; refine (HS _ (by assumption)).mono ?_; rintro e w' ⟨rfl, hb⟩)
        | (go_at_call 9; refine (HO _ (by assumption)).mono ?_; rintro e w' ⟨rfl, hb⟩)
        | (go_at_call 11; refine (HF _ (by assumption)).mono ?_; rintro e w' ⟨rfl, hb⟩)
        | (go_at_call 49; refine (HT _ (by assumption)).mono ?_; rintro e w' ⟨rfl, hb⟩)
        | (go_at_call 31; refine (HH _ (by assumption)).mono ?_; rintro e w' ⟨rfl, hb⟩))
      go_ret
      refine ⟨ret_bool (isw_of ?_), by assumption⟩
      rw [HI.out]
      have h0 := H0.out
      have h1 := H1.out
      simp
      try omega
    · have b1 : (v / 4096 % 8 != 1) = true := by simp [h1]
      have H1 := Lib.hid h1
      clear h1
      go_enter Tryd.func28, Tryd.ntmps28
      go_wp2_with (first
        | (go_at_call 19; refine (HS _ (by assumption)).mono ?_; rintro e w' ⟨rfl, hb⟩)
        | (go_at_call 9; refine (HO _ (by assumption)).mono ?_; rintro e w' ⟨rfl, hb⟩)
        | (go_at_call 11; refine (HF _ (by assumption)).mono ?_; rintro e w' ⟨rfl, hb⟩)
        | (go_at_call 49; refine (HT _ (by assumption)).mono ?_; rintro e w' ⟨rfl, hb⟩)
        | (go_at_call 31; refine (HH _ (by assumption)).mono ?_; rintro e w' ⟨rfl, hb⟩))
      go_ret
      refine ⟨ret_bool (isw_of ?_), by assumption⟩
      rw [HI.out]
      have h0 := H0.out
      have h1 := H1.out
      simp
      try omega
  · have b0 : (v % 128 != 19) = true := by simp [h0]
    have H0 := Lib.hid h0
    clear h0
    go_enter Tryd.func28, Tryd.ntmps28
    go_wp2_with (first
      | (go_at_call 19; refine (HS _ (by assumption)).mono ?_; rintro e w' ⟨rfl, hb⟩)
      | (go_at_call 9; refine (HO _ (by assumption)).mono ?_; rintro e w' ⟨rfl, hb⟩)
      | (go_at_call 11; refine (HF _ (by assumption)).mono ?_; rintro e w' ⟨rfl, hb⟩)
      | (go_at_call 49; refine (HT _ (by assumption)).mono ?_; rintro e w' ⟨rfl, hb⟩)
      | (go_at_call 31; refine (HH _ (by assumption)).mono ?_; rintro e w' ⟨rfl, hb⟩))
    go_ret
    refine ⟨ret_bool (isw_of ?_), by assumption⟩
    rw [HI.out]
    have h0 := H0.out
    simp
    try omega
end Go.Proofs.YtbnacdhhacafkaaDoor
