/- Whether a word is an operation's: the document's Is, operation by operation. -/
import Derived.Test.YtbnacdhhacafkaaDoorRows
import Derived.Test.YtbnacdhhacafkaaDoorSz
import Derived.Test.YtbnacdhhacafkaaDoorTd
import Derived.Test.YtbnacdhhacafkaaDoorOc
import Derived.Test.YtbnacdhhacafkaaDoorFc
import Derived.Test.YtbnacdhhacafkaaDoorSh
import Derived.Test.YtbnacdhhacafkaaDoorFm
import Derived.Test.YtbnacdhhacafkaaDoorIsd
import Derived.WalkKit
import Derived.WalkLawsBesides
import Derived.Deep.QuietTactic
import Derived.BigQuiet
import Derived.WalkSmall
import Derived.WalkSpells
import Derived.Lib.Hide
import Derived.Below
namespace Go.Proofs.YtbnacdhhacafkaaDoor
open Go.RowKit

set_option maxRecDepth 100000 in
theorem is_54 : IsAt 54 := by
  intro v w v0 v1
  have HS := fun w1 h => sort_bw w w1 h 54 (by decide) (by decide)
  have HO : ∀ w1, BW w w1 → _ := fun w1 h => (oc_54 w1).mono fun _ _ ⟨he, hb⟩ => And.intro he (BW.on h hb)
  have HF : ∀ w1, BW w w1 → _ := fun w1 h => (fc_54 w1).mono fun _ _ ⟨he, hb⟩ => And.intro he (BW.on h hb)
  have HT : ∀ w1, BW w w1 → _ := fun w1 h => (tu_54 w1).mono fun _ _ ⟨he, hb⟩ => And.intro he (BW.on h hb)
  have HH : ∀ w1, BW w w1 → _ := fun w1 h => (sh_54 w1).mono fun _ _ ⟨he, hb⟩ => And.intro he (BW.on h hb)
  have HV : ∀ w1, BW w w1 → _ := fun w1 h => (fv_54 w1).mono fun _ _ ⟨he, hb⟩ => And.intro he (BW.on h hb)
  have HB : BW w w := Below.refl _ _
  rw [show srt 54 = 10 by decide] at HS
  rw [show ocV 54 = 47 by decide] at HO
  rw [show f3V 54 = 2 by decide] at HF
  rw [show turB 54 = false by decide] at HT
  rw [show shV 54 = 0 by decide] at HH
  rw [show agV 54 = 2 by decide] at HV
  have HI : Hid (Isw v 54 ↔ v % 128 = 47 ∧ v / 4096 % 8 = 2 ∧ v / 134217728 = 2 ∧ v / 1048576 % 32 = 0) := by
    show _ ↔ _
    unfold Isw
    rw [show ocV 54 = 47 by decide, show f3V 54 = 2 by decide, show agV 54 = 2 by decide, show kdV 54 = 4 by decide]
    simp
    try omega
  by_cases h0 : v % 128 = 47
  · have b0 : (v % 128 != 47) = false := by simp [h0]
    have H0 := Lib.hid h0
    clear h0
    by_cases h1 : v / 4096 % 8 = 2
    · have b1 : (v / 4096 % 8 != 2) = false := by simp [h1]
      have H1 := Lib.hid h1
      clear h1
      by_cases h2 : v / 134217728 = 2
      · have b2 : (v / 134217728 == 2) = true := by simp [h2]
        have H2 := Lib.hid h2
        clear h2
        by_cases h3 : v / 1048576 % 32 = 0
        · have b3 : (v / 1048576 % 32 == 0) = true := by simp [h3]
          have H3 := Lib.hid h3
          clear h3
          go_enter Tryd.func28, Tryd.ntmps28
          go_wp2_with (first
            | (go_at_call 19; refine (HS _ (by assumption)).mono ?_; rintro e w' ⟨rfl, hb⟩)
            | (go_at_call 9; refine (HO _ (by assumption)).mono ?_; rintro e w' ⟨rfl, hb⟩)
            | (go_at_call 11; refine (HF _ (by assumption)).mono ?_; rintro e w' ⟨rfl, hb⟩)
            | (go_at_call 49; refine (HT _ (by assumption)).mono ?_; rintro e w' ⟨rfl, hb⟩)
            | (go_at_call 31; refine (HH _ (by assumption)).mono ?_; rintro e w' ⟨rfl, hb⟩)
            | (go_at_call 50; refine (HV _ (by assumption)).mono ?_; rintro e w' ⟨rfl, hb⟩))
          go_ret
          refine ⟨ret_bool (isw_of ?_), by assumption⟩
          rw [HI.out]
          have h0 := H0.out
          have h1 := H1.out
          have h2 := H2.out
          have h3 := H3.out
          simp
          try omega
        · have b3 : (v / 1048576 % 32 == 0) = false := by simp [h3]
          have H3 := Lib.hid h3
          clear h3
          go_enter Tryd.func28, Tryd.ntmps28
          go_wp2_with (first
            | (go_at_call 19; refine (HS _ (by assumption)).mono ?_; rintro e w' ⟨rfl, hb⟩)
            | (go_at_call 9; refine (HO _ (by assumption)).mono ?_; rintro e w' ⟨rfl, hb⟩)
            | (go_at_call 11; refine (HF _ (by assumption)).mono ?_; rintro e w' ⟨rfl, hb⟩)
            | (go_at_call 49; refine (HT _ (by assumption)).mono ?_; rintro e w' ⟨rfl, hb⟩)
            | (go_at_call 31; refine (HH _ (by assumption)).mono ?_; rintro e w' ⟨rfl, hb⟩)
            | (go_at_call 50; refine (HV _ (by assumption)).mono ?_; rintro e w' ⟨rfl, hb⟩))
          go_ret
          refine ⟨ret_bool (isw_of ?_), by assumption⟩
          rw [HI.out]
          have h0 := H0.out
          have h1 := H1.out
          have h2 := H2.out
          have h3 := H3.out
          simp
          try omega
      · have b2 : (v / 134217728 == 2) = false := by simp [h2]
        have H2 := Lib.hid h2
        clear h2
        go_enter Tryd.func28, Tryd.ntmps28
        go_wp2_with (first
          | (go_at_call 19; refine (HS _ (by assumption)).mono ?_; rintro e w' ⟨rfl, hb⟩)
          | (go_at_call 9; refine (HO _ (by assumption)).mono ?_; rintro e w' ⟨rfl, hb⟩)
          | (go_at_call 11; refine (HF _ (by assumption)).mono ?_; rintro e w' ⟨rfl, hb⟩)
          | (go_at_call 49; refine (HT _ (by assumption)).mono ?_; rintro e w' ⟨rfl, hb⟩)
          | (go_at_call 31; refine (HH _ (by assumption)).mono ?_; rintro e w' ⟨rfl, hb⟩)
          | (go_at_call 50; refine (HV _ (by assumption)).mono ?_; rintro e w' ⟨rfl, hb⟩))
        go_ret
        refine ⟨ret_bool (isw_of ?_), by assumption⟩
        rw [HI.out]
        have h0 := H0.out
        have h1 := H1.out
        have h2 := H2.out
        simp
        try omega
    · have b1 : (v / 4096 % 8 != 2) = true := by simp [h1]
      have H1 := Lib.hid h1
      clear h1
      go_enter Tryd.func28, Tryd.ntmps28
      go_wp2_with (first
        | (go_at_call 19; refine (HS _ (by assumption)).mono ?_; rintro e w' ⟨rfl, hb⟩)
        | (go_at_call 9; refine (HO _ (by assumption)).mono ?_; rintro e w' ⟨rfl, hb⟩)
        | (go_at_call 11; refine (HF _ (by assumption)).mono ?_; rintro e w' ⟨rfl, hb⟩)
        | (go_at_call 49; refine (HT _ (by assumption)).mono ?_; rintro e w' ⟨rfl, hb⟩)
        | (go_at_call 31; refine (HH _ (by assumption)).mono ?_; rintro e w' ⟨rfl, hb⟩)
        | (go_at_call 50; refine (HV _ (by assumption)).mono ?_; rintro e w' ⟨rfl, hb⟩))
      go_ret
      refine ⟨ret_bool (isw_of ?_), by assumption⟩
      rw [HI.out]
      have h0 := H0.out
      have h1 := H1.out
      simp
      try omega
  · have b0 : (v % 128 != 47) = true := by simp [h0]
    have H0 := Lib.hid h0
    clear h0
    go_enter Tryd.func28, Tryd.ntmps28
    go_wp2_with (first
      | (go_at_call 19; refine (HS _ (by assumption)).mono ?_; rintro e w' ⟨rfl, hb⟩)
      | (go_at_call 9; refine (HO _ (by assumption)).mono ?_; rintro e w' ⟨rfl, hb⟩)
      | (go_at_call 11; refine (HF _ (by assumption)).mono ?_; rintro e w' ⟨rfl, hb⟩)
      | (go_at_call 49; refine (HT _ (by assumption)).mono ?_; rintro e w' ⟨rfl, hb⟩)
      | (go_at_call 31; refine (HH _ (by assumption)).mono ?_; rintro e w' ⟨rfl, hb⟩)
      | (go_at_call 50; refine (HV _ (by assumption)).mono ?_; rintro e w' ⟨rfl, hb⟩))
    go_ret
    refine ⟨ret_bool (isw_of ?_), by assumption⟩
    rw [HI.out]
    have h0 := H0.out
    simp
    try omega
set_option maxRecDepth 100000 in
theorem is_55 : IsAt 55 := by
  intro v w v0 v1
  have HS := fun w1 h => sort_bw w w1 h 55 (by decide) (by decide)
  have HO : ∀ w1, BW w w1 → _ := fun w1 h => (oc_55 w1).mono fun _ _ ⟨he, hb⟩ => And.intro he (BW.on h hb)
  have HF : ∀ w1, BW w w1 → _ := fun w1 h => (fc_55 w1).mono fun _ _ ⟨he, hb⟩ => And.intro he (BW.on h hb)
  have HT : ∀ w1, BW w w1 → _ := fun w1 h => (tu_55 w1).mono fun _ _ ⟨he, hb⟩ => And.intro he (BW.on h hb)
  have HH : ∀ w1, BW w w1 → _ := fun w1 h => (sh_55 w1).mono fun _ _ ⟨he, hb⟩ => And.intro he (BW.on h hb)
  have HV : ∀ w1, BW w w1 → _ := fun w1 h => (fv_55 w1).mono fun _ _ ⟨he, hb⟩ => And.intro he (BW.on h hb)
  have HB : BW w w := Below.refl _ _
  rw [show srt 55 = 10 by decide] at HS
  rw [show ocV 55 = 47 by decide] at HO
  rw [show f3V 55 = 3 by decide] at HF
  rw [show turB 55 = false by decide] at HT
  rw [show shV 55 = 0 by decide] at HH
  rw [show agV 55 = 2 by decide] at HV
  have HI : Hid (Isw v 55 ↔ v % 128 = 47 ∧ v / 4096 % 8 = 3 ∧ v / 134217728 = 2 ∧ v / 1048576 % 32 = 0) := by
    show _ ↔ _
    unfold Isw
    rw [show ocV 55 = 47 by decide, show f3V 55 = 3 by decide, show agV 55 = 2 by decide, show kdV 55 = 4 by decide]
    simp
    try omega
  by_cases h0 : v % 128 = 47
  · have b0 : (v % 128 != 47) = false := by simp [h0]
    have H0 := Lib.hid h0
    clear h0
    by_cases h1 : v / 4096 % 8 = 3
    · have b1 : (v / 4096 % 8 != 3) = false := by simp [h1]
      have H1 := Lib.hid h1
      clear h1
      by_cases h2 : v / 134217728 = 2
      · have b2 : (v / 134217728 == 2) = true := by simp [h2]
        have H2 := Lib.hid h2
        clear h2
        by_cases h3 : v / 1048576 % 32 = 0
        · have b3 : (v / 1048576 % 32 == 0) = true := by simp [h3]
          have H3 := Lib.hid h3
          clear h3
          go_enter Tryd.func28, Tryd.ntmps28
          go_wp2_with (first
            | (go_at_call 19; refine (HS _ (by assumption)).mono ?_; rintro e w' ⟨rfl, hb⟩)
            | (go_at_call 9; refine (HO _ (by assumption)).mono ?_; rintro e w' ⟨rfl, hb⟩)
            | (go_at_call 11; refine (HF _ (by assumption)).mono ?_; rintro e w' ⟨rfl, hb⟩)
            | (go_at_call 49; refine (HT _ (by assumption)).mono ?_; rintro e w' ⟨rfl, hb⟩)
            | (go_at_call 31; refine (HH _ (by assumption)).mono ?_; rintro e w' ⟨rfl, hb⟩)
            | (go_at_call 50; refine (HV _ (by assumption)).mono ?_; rintro e w' ⟨rfl, hb⟩))
          go_ret
          refine ⟨ret_bool (isw_of ?_), by assumption⟩
          rw [HI.out]
          have h0 := H0.out
          have h1 := H1.out
          have h2 := H2.out
          have h3 := H3.out
          simp
          try omega
        · have b3 : (v / 1048576 % 32 == 0) = false := by simp [h3]
          have H3 := Lib.hid h3
          clear h3
          go_enter Tryd.func28, Tryd.ntmps28
          go_wp2_with (first
            | (go_at_call 19; refine (HS _ (by assumption)).mono ?_; rintro e w' ⟨rfl, hb⟩)
            | (go_at_call 9; refine (HO _ (by assumption)).mono ?_; rintro e w' ⟨rfl, hb⟩)
            | (go_at_call 11; refine (HF _ (by assumption)).mono ?_; rintro e w' ⟨rfl, hb⟩)
            | (go_at_call 49; refine (HT _ (by assumption)).mono ?_; rintro e w' ⟨rfl, hb⟩)
            | (go_at_call 31; refine (HH _ (by assumption)).mono ?_; rintro e w' ⟨rfl, hb⟩)
            | (go_at_call 50; refine (HV _ (by assumption)).mono ?_; rintro e w' ⟨rfl, hb⟩))
          go_ret
          refine ⟨ret_bool (isw_of ?_), by assumption⟩
          rw [HI.out]
          have h0 := H0.out
          have h1 := H1.out
          have h2 := H2.out
          have h3 := H3.out
          simp
          try omega
      · have b2 : (v / 134217728 == 2) = false := by simp [h2]
        have H2 := Lib.hid h2
        clear h2
        go_enter Tryd.func28, Tryd.ntmps28
        go_wp2_with (first
          | (go_at_call 19; refine (HS _ (by assumption)).mono ?_; rintro e w' ⟨rfl, hb⟩)
          | (go_at_call 9; refine (HO _ (by assumption)).mono ?_; rintro e w' ⟨rfl, hb⟩)
          | (go_at_call 11; refine (HF _ (by assumption)).mono ?_; rintro e w' ⟨rfl, hb⟩)
          | (go_at_call 49; refine (HT _ (by assumption)).mono ?_; rintro e w' ⟨rfl, hb⟩)
          | (go_at_call 31; refine (HH _ (by assumption)).mono ?_; rintro e w' ⟨rfl, hb⟩)
          | (go_at_call 50; refine (HV _ (by assumption)).mono ?_; rintro e w' ⟨rfl, hb⟩))
        go_ret
        refine ⟨ret_bool (isw_of ?_), by assumption⟩
        rw [HI.out]
        have h0 := H0.out
        have h1 := H1.out
        have h2 := H2.out
        simp
        try omega
    · have b1 : (v / 4096 % 8 != 3) = true := by simp [h1]
      have H1 := Lib.hid h1
      clear h1
      go_enter Tryd.func28, Tryd.ntmps28
      go_wp2_with (first
        | (go_at_call 19; refine (HS _ (by assumption)).mono ?_; rintro e w' ⟨rfl, hb⟩)
        | (go_at_call 9; refine (HO _ (by assumption)).mono ?_; rintro e w' ⟨rfl, hb⟩)
        | (go_at_call 11; refine (HF _ (by assumption)).mono ?_; rintro e w' ⟨rfl, hb⟩)
        | (go_at_call 49; refine (HT _ (by assumption)).mono ?_; rintro e w' ⟨rfl, hb⟩)
        | (go_at_call 31; refine (HH _ (by assumption)).mono ?_; rintro e w' ⟨rfl, hb⟩)
        | (go_at_call 50; refine (HV _ (by assumption)).mono ?_; rintro e w' ⟨rfl, hb⟩))
      go_ret
      refine ⟨ret_bool (isw_of ?_), by assumption⟩
      rw [HI.out]
      have h0 := H0.out
      have h1 := H1.out
      simp
      try omega
  · have b0 : (v % 128 != 47) = true := by simp [h0]
    have H0 := Lib.hid h0
    clear h0
    go_enter Tryd.func28, Tryd.ntmps28
    go_wp2_with (first
      | (go_at_call 19; refine (HS _ (by assumption)).mono ?_; rintro e w' ⟨rfl, hb⟩)
      | (go_at_call 9; refine (HO _ (by assumption)).mono ?_; rintro e w' ⟨rfl, hb⟩)
      | (go_at_call 11; refine (HF _ (by assumption)).mono ?_; rintro e w' ⟨rfl, hb⟩)
      | (go_at_call 49; refine (HT _ (by assumption)).mono ?_; rintro e w' ⟨rfl, hb⟩)
      | (go_at_call 31; refine (HH _ (by assumption)).mono ?_; rintro e w' ⟨rfl, hb⟩)
      | (go_at_call 50; refine (HV _ (by assumption)).mono ?_; rintro e w' ⟨rfl, hb⟩))
    go_ret
    refine ⟨ret_bool (isw_of ?_), by assumption⟩
    rw [HI.out]
    have h0 := H0.out
    simp
    try omega
set_option maxRecDepth 100000 in
theorem is_56 : IsAt 56 := by
  intro v w v0 v1
  have HS := fun w1 h => sort_bw w w1 h 56 (by decide) (by decide)
  have HO : ∀ w1, BW w w1 → _ := fun w1 h => (oc_56 w1).mono fun _ _ ⟨he, hb⟩ => And.intro he (BW.on h hb)
  have HF : ∀ w1, BW w w1 → _ := fun w1 h => (fc_56 w1).mono fun _ _ ⟨he, hb⟩ => And.intro he (BW.on h hb)
  have HT : ∀ w1, BW w w1 → _ := fun w1 h => (tu_56 w1).mono fun _ _ ⟨he, hb⟩ => And.intro he (BW.on h hb)
  have HH : ∀ w1, BW w w1 → _ := fun w1 h => (sh_56 w1).mono fun _ _ ⟨he, hb⟩ => And.intro he (BW.on h hb)
  have HV : ∀ w1, BW w w1 → _ := fun w1 h => (fv_56 w1).mono fun _ _ ⟨he, hb⟩ => And.intro he (BW.on h hb)
  have HB : BW w w := Below.refl _ _
  rw [show srt 56 = 11 by decide] at HS
  rw [show ocV 56 = 47 by decide] at HO
  rw [show f3V 56 = 2 by decide] at HF
  rw [show turB 56 = false by decide] at HT
  rw [show shV 56 = 0 by decide] at HH
  rw [show agV 56 = 3 by decide] at HV
  have HI : Hid (Isw v 56 ↔ v % 128 = 47 ∧ v / 4096 % 8 = 2 ∧ v / 134217728 = 3) := by
    show _ ↔ _
    unfold Isw
    rw [show ocV 56 = 47 by decide, show f3V 56 = 2 by decide, show agV 56 = 3 by decide, show kdV 56 = 5 by decide]
    simp
    try omega
  by_cases h0 : v % 128 = 47
  · have b0 : (v % 128 != 47) = false := by simp [h0]
    have H0 := Lib.hid h0
    clear h0
    by_cases h1 : v / 4096 % 8 = 2
    · have b1 : (v / 4096 % 8 != 2) = false := by simp [h1]
      have H1 := Lib.hid h1
      clear h1
      go_enter Tryd.func28, Tryd.ntmps28
      go_wp2_with (first
        | (go_at_call 19; refine (HS _ (by assumption)).mono ?_; rintro e w' ⟨rfl, hb⟩)
        | (go_at_call 9; refine (HO _ (by assumption)).mono ?_; rintro e w' ⟨rfl, hb⟩)
        | (go_at_call 11; refine (HF _ (by assumption)).mono ?_; rintro e w' ⟨rfl, hb⟩)
        | (go_at_call 49; refine (HT _ (by assumption)).mono ?_; rintro e w' ⟨rfl, hb⟩)
        | (go_at_call 31; refine (HH _ (by assumption)).mono ?_; rintro e w' ⟨rfl, hb⟩)
        | (go_at_call 50; refine (HV _ (by assumption)).mono ?_; rintro e w' ⟨rfl, hb⟩))
      go_ret
      refine ⟨ret_bool (isw_of ?_), by assumption⟩
      rw [HI.out]
      have h0 := H0.out
      have h1 := H1.out
      simp
      try omega
    · have b1 : (v / 4096 % 8 != 2) = true := by simp [h1]
      have H1 := Lib.hid h1
      clear h1
      go_enter Tryd.func28, Tryd.ntmps28
      go_wp2_with (first
        | (go_at_call 19; refine (HS _ (by assumption)).mono ?_; rintro e w' ⟨rfl, hb⟩)
        | (go_at_call 9; refine (HO _ (by assumption)).mono ?_; rintro e w' ⟨rfl, hb⟩)
        | (go_at_call 11; refine (HF _ (by assumption)).mono ?_; rintro e w' ⟨rfl, hb⟩)
        | (go_at_call 49; refine (HT _ (by assumption)).mono ?_; rintro e w' ⟨rfl, hb⟩)
        | (go_at_call 31; refine (HH _ (by assumption)).mono ?_; rintro e w' ⟨rfl, hb⟩)
        | (go_at_call 50; refine (HV _ (by assumption)).mono ?_; rintro e w' ⟨rfl, hb⟩))
      go_ret
      refine ⟨ret_bool (isw_of ?_), by assumption⟩
      rw [HI.out]
      have h0 := H0.out
      have h1 := H1.out
      simp
      try omega
  · have b0 : (v % 128 != 47) = true := by simp [h0]
    have H0 := Lib.hid h0
    clear h0
    go_enter Tryd.func28, Tryd.ntmps28
    go_wp2_with (first
      | (go_at_call 19; refine (HS _ (by assumption)).mono ?_; rintro e w' ⟨rfl, hb⟩)
      | (go_at_call 9; refine (HO _ (by assumption)).mono ?_; rintro e w' ⟨rfl, hb⟩)
      | (go_at_call 11; refine (HF _ (by assumption)).mono ?_; rintro e w' ⟨rfl, hb⟩)
      | (go_at_call 49; refine (HT _ (by assumption)).mono ?_; rintro e w' ⟨rfl, hb⟩)
      | (go_at_call 31; refine (HH _ (by assumption)).mono ?_; rintro e w' ⟨rfl, hb⟩)
      | (go_at_call 50; refine (HV _ (by assumption)).mono ?_; rintro e w' ⟨rfl, hb⟩))
    go_ret
    refine ⟨ret_bool (isw_of ?_), by assumption⟩
    rw [HI.out]
    have h0 := H0.out
    simp
    try omega
set_option maxRecDepth 100000 in
theorem is_57 : IsAt 57 := by
  intro v w v0 v1
  have HS := fun w1 h => sort_bw w w1 h 57 (by decide) (by decide)
  have HO : ∀ w1, BW w w1 → _ := fun w1 h => (oc_57 w1).mono fun _ _ ⟨he, hb⟩ => And.intro he (BW.on h hb)
  have HF : ∀ w1, BW w w1 → _ := fun w1 h => (fc_57 w1).mono fun _ _ ⟨he, hb⟩ => And.intro he (BW.on h hb)
  have HT : ∀ w1, BW w w1 → _ := fun w1 h => (tu_57 w1).mono fun _ _ ⟨he, hb⟩ => And.intro he (BW.on h hb)
  have HH : ∀ w1, BW w w1 → _ := fun w1 h => (sh_57 w1).mono fun _ _ ⟨he, hb⟩ => And.intro he (BW.on h hb)
  have HV : ∀ w1, BW w w1 → _ := fun w1 h => (fv_57 w1).mono fun _ _ ⟨he, hb⟩ => And.intro he (BW.on h hb)
  have HB : BW w w := Below.refl _ _
  rw [show srt 57 = 11 by decide] at HS
  rw [show ocV 57 = 47 by decide] at HO
  rw [show f3V 57 = 3 by decide] at HF
  rw [show turB 57 = false by decide] at HT
  rw [show shV 57 = 0 by decide] at HH
  rw [show agV 57 = 3 by decide] at HV
  have HI : Hid (Isw v 57 ↔ v % 128 = 47 ∧ v / 4096 % 8 = 3 ∧ v / 134217728 = 3) := by
    show _ ↔ _
    unfold Isw
    rw [show ocV 57 = 47 by decide, show f3V 57 = 3 by decide, show agV 57 = 3 by decide, show kdV 57 = 5 by decide]
    simp
    try omega
  by_cases h0 : v % 128 = 47
  · have b0 : (v % 128 != 47) = false := by simp [h0]
    have H0 := Lib.hid h0
    clear h0
    by_cases h1 : v / 4096 % 8 = 3
    · have b1 : (v / 4096 % 8 != 3) = false := by simp [h1]
      have H1 := Lib.hid h1
      clear h1
      go_enter Tryd.func28, Tryd.ntmps28
      go_wp2_with (first
        | (go_at_call 19; refine (HS _ (by assumption)).mono ?_; rintro e w' ⟨rfl, hb⟩)
        | (go_at_call 9; refine (HO _ (by assumption)).mono ?_; rintro e w' ⟨rfl, hb⟩)
        | (go_at_call 11; refine (HF _ (by assumption)).mono ?_; rintro e w' ⟨rfl, hb⟩)
        | (go_at_call 49; refine (HT _ (by assumption)).mono ?_; rintro e w' ⟨rfl, hb⟩)
        | (go_at_call 31; refine (HH _ (by assumption)).mono ?_; rintro e w' ⟨rfl, hb⟩)
        | (go_at_call 50; refine (HV _ (by assumption)).mono ?_; rintro e w' ⟨rfl, hb⟩))
      go_ret
      refine ⟨ret_bool (isw_of ?_), by assumption⟩
      rw [HI.out]
      have h0 := H0.out
      have h1 := H1.out
      simp
      try omega
    · have b1 : (v / 4096 % 8 != 3) = true := by simp [h1]
      have H1 := Lib.hid h1
      clear h1
      go_enter Tryd.func28, Tryd.ntmps28
      go_wp2_with (first
        | (go_at_call 19; refine (HS _ (by assumption)).mono ?_; rintro e w' ⟨rfl, hb⟩)
        | (go_at_call 9; refine (HO _ (by assumption)).mono ?_; rintro e w' ⟨rfl, hb⟩)
        | (go_at_call 11; refine (HF _ (by assumption)).mono ?_; rintro e w' ⟨rfl, hb⟩)
        | (go_at_call 49; refine (HT _ (by assumption)).mono ?_; rintro e w' ⟨rfl, hb⟩)
        | (go_at_call 31; refine (HH _ (by assumption)).mono ?_; rintro e w' ⟨rfl, hb⟩)
        | (go_at_call 50; refine (HV _ (by assumption)).mono ?_; rintro e w' ⟨rfl, hb⟩))
      go_ret
      refine ⟨ret_bool (isw_of ?_), by assumption⟩
      rw [HI.out]
      have h0 := H0.out
      have h1 := H1.out
      simp
      try omega
  · have b0 : (v % 128 != 47) = true := by simp [h0]
    have H0 := Lib.hid h0
    clear h0
    go_enter Tryd.func28, Tryd.ntmps28
    go_wp2_with (first
      | (go_at_call 19; refine (HS _ (by assumption)).mono ?_; rintro e w' ⟨rfl, hb⟩)
      | (go_at_call 9; refine (HO _ (by assumption)).mono ?_; rintro e w' ⟨rfl, hb⟩)
      | (go_at_call 11; refine (HF _ (by assumption)).mono ?_; rintro e w' ⟨rfl, hb⟩)
      | (go_at_call 49; refine (HT _ (by assumption)).mono ?_; rintro e w' ⟨rfl, hb⟩)
      | (go_at_call 31; refine (HH _ (by assumption)).mono ?_; rintro e w' ⟨rfl, hb⟩)
      | (go_at_call 50; refine (HV _ (by assumption)).mono ?_; rintro e w' ⟨rfl, hb⟩))
    go_ret
    refine ⟨ret_bool (isw_of ?_), by assumption⟩
    rw [HI.out]
    have h0 := H0.out
    simp
    try omega
set_option maxRecDepth 100000 in
theorem is_58 : IsAt 58 := by
  intro v w v0 v1
  have HS := fun w1 h => sort_bw w w1 h 58 (by decide) (by decide)
  have HO : ∀ w1, BW w w1 → _ := fun w1 h => (oc_58 w1).mono fun _ _ ⟨he, hb⟩ => And.intro he (BW.on h hb)
  have HF : ∀ w1, BW w w1 → _ := fun w1 h => (fc_58 w1).mono fun _ _ ⟨he, hb⟩ => And.intro he (BW.on h hb)
  have HT : ∀ w1, BW w w1 → _ := fun w1 h => (tu_58 w1).mono fun _ _ ⟨he, hb⟩ => And.intro he (BW.on h hb)
  have HH : ∀ w1, BW w w1 → _ := fun w1 h => (sh_58 w1).mono fun _ _ ⟨he, hb⟩ => And.intro he (BW.on h hb)
  have HV : ∀ w1, BW w w1 → _ := fun w1 h => (fv_58 w1).mono fun _ _ ⟨he, hb⟩ => And.intro he (BW.on h hb)
  have HB : BW w w := Below.refl _ _
  rw [show srt 58 = 12 by decide] at HS
  rw [show ocV 58 = 47 by decide] at HO
  rw [show f3V 58 = 2 by decide] at HF
  rw [show turB 58 = false by decide] at HT
  rw [show shV 58 = 0 by decide] at HH
  rw [show agV 58 = 1 by decide] at HV
  have HI : Hid (Isw v 58 ↔ v % 128 = 47 ∧ v / 4096 % 8 = 2 ∧ v / 134217728 = 1) := by
    show _ ↔ _
    unfold Isw
    rw [show ocV 58 = 47 by decide, show f3V 58 = 2 by decide, show agV 58 = 1 by decide, show kdV 58 = 5 by decide]
    simp
    try omega
  by_cases h0 : v % 128 = 47
  · have b0 : (v % 128 != 47) = false := by simp [h0]
    have H0 := Lib.hid h0
    clear h0
    by_cases h1 : v / 4096 % 8 = 2
    · have b1 : (v / 4096 % 8 != 2) = false := by simp [h1]
      have H1 := Lib.hid h1
      clear h1
      go_enter Tryd.func28, Tryd.ntmps28
      go_wp2_with (first
        | (go_at_call 19; refine (HS _ (by assumption)).mono ?_; rintro e w' ⟨rfl, hb⟩)
        | (go_at_call 9; refine (HO _ (by assumption)).mono ?_; rintro e w' ⟨rfl, hb⟩)
        | (go_at_call 11; refine (HF _ (by assumption)).mono ?_; rintro e w' ⟨rfl, hb⟩)
        | (go_at_call 49; refine (HT _ (by assumption)).mono ?_; rintro e w' ⟨rfl, hb⟩)
        | (go_at_call 31; refine (HH _ (by assumption)).mono ?_; rintro e w' ⟨rfl, hb⟩)
        | (go_at_call 50; refine (HV _ (by assumption)).mono ?_; rintro e w' ⟨rfl, hb⟩))
      go_ret
      refine ⟨ret_bool (isw_of ?_), by assumption⟩
      rw [HI.out]
      have h0 := H0.out
      have h1 := H1.out
      simp
      try omega
    · have b1 : (v / 4096 % 8 != 2) = true := by simp [h1]
      have H1 := Lib.hid h1
      clear h1
      go_enter Tryd.func28, Tryd.ntmps28
      go_wp2_with (first
        | (go_at_call 19; refine (HS _ (by assumption)).mono ?_; rintro e w' ⟨rfl, hb⟩)
        | (go_at_call 9; refine (HO _ (by assumption)).mono ?_; rintro e w' ⟨rfl, hb⟩)
        | (go_at_call 11; refine (HF _ (by assumption)).mono ?_; rintro e w' ⟨rfl, hb⟩)
        | (go_at_call 49; refine (HT _ (by assumption)).mono ?_; rintro e w' ⟨rfl, hb⟩)
        | (go_at_call 31; refine (HH _ (by assumption)).mono ?_; rintro e w' ⟨rfl, hb⟩)
        | (go_at_call 50; refine (HV _ (by assumption)).mono ?_; rintro e w' ⟨rfl, hb⟩))
      go_ret
      refine ⟨ret_bool (isw_of ?_), by assumption⟩
      rw [HI.out]
      have h0 := H0.out
      have h1 := H1.out
      simp
      try omega
  · have b0 : (v % 128 != 47) = true := by simp [h0]
    have H0 := Lib.hid h0
    clear h0
    go_enter Tryd.func28, Tryd.ntmps28
    go_wp2_with (first
      | (go_at_call 19; refine (HS _ (by assumption)).mono ?_; rintro e w' ⟨rfl, hb⟩)
      | (go_at_call 9; refine (HO _ (by assumption)).mono ?_; rintro e w' ⟨rfl, hb⟩)
      | (go_at_call 11; refine (HF _ (by assumption)).mono ?_; rintro e w' ⟨rfl, hb⟩)
      | (go_at_call 49; refine (HT _ (by assumption)).mono ?_; rintro e w' ⟨rfl, hb⟩)
      | (go_at_call 31; refine (HH _ (by assumption)).mono ?_; rintro e w' ⟨rfl, hb⟩)
      | (go_at_call 50; refine (HV _ (by assumption)).mono ?_; rintro e w' ⟨rfl, hb⟩))
    go_ret
    refine ⟨ret_bool (isw_of ?_), by assumption⟩
    rw [HI.out]
    have h0 := H0.out
    simp
    try omega
set_option maxRecDepth 100000 in
theorem is_59 : IsAt 59 := by
  intro v w v0 v1
  have HS := fun w1 h => sort_bw w w1 h 59 (by decide) (by decide)
  have HO : ∀ w1, BW w w1 → _ := fun w1 h => (oc_59 w1).mono fun _ _ ⟨he, hb⟩ => And.intro he (BW.on h hb)
  have HF : ∀ w1, BW w w1 → _ := fun w1 h => (fc_59 w1).mono fun _ _ ⟨he, hb⟩ => And.intro he (BW.on h hb)
  have HT : ∀ w1, BW w w1 → _ := fun w1 h => (tu_59 w1).mono fun _ _ ⟨he, hb⟩ => And.intro he (BW.on h hb)
  have HH : ∀ w1, BW w w1 → _ := fun w1 h => (sh_59 w1).mono fun _ _ ⟨he, hb⟩ => And.intro he (BW.on h hb)
  have HV : ∀ w1, BW w w1 → _ := fun w1 h => (fv_59 w1).mono fun _ _ ⟨he, hb⟩ => And.intro he (BW.on h hb)
  have HB : BW w w := Below.refl _ _
  rw [show srt 59 = 12 by decide] at HS
  rw [show ocV 59 = 47 by decide] at HO
  rw [show f3V 59 = 2 by decide] at HF
  rw [show turB 59 = false by decide] at HT
  rw [show shV 59 = 0 by decide] at HH
  rw [show agV 59 = 0 by decide] at HV
  have HI : Hid (Isw v 59 ↔ v % 128 = 47 ∧ v / 4096 % 8 = 2 ∧ v / 134217728 = 0) := by
    show _ ↔ _
    unfold Isw
    rw [show ocV 59 = 47 by decide, show f3V 59 = 2 by decide, show agV 59 = 0 by decide, show kdV 59 = 5 by decide]
    simp
    try omega
  by_cases h0 : v % 128 = 47
  · have b0 : (v % 128 != 47) = false := by simp [h0]
    have H0 := Lib.hid h0
    clear h0
    by_cases h1 : v / 4096 % 8 = 2
    · have b1 : (v / 4096 % 8 != 2) = false := by simp [h1]
      have H1 := Lib.hid h1
      clear h1
      go_enter Tryd.func28, Tryd.ntmps28
      go_wp2_with (first
        | (go_at_call 19; refine (HS _ (by assumption)).mono ?_; rintro e w' ⟨rfl, hb⟩)
        | (go_at_call 9; refine (HO _ (by assumption)).mono ?_; rintro e w' ⟨rfl, hb⟩)
        | (go_at_call 11; refine (HF _ (by assumption)).mono ?_; rintro e w' ⟨rfl, hb⟩)
        | (go_at_call 49; refine (HT _ (by assumption)).mono ?_; rintro e w' ⟨rfl, hb⟩)
        | (go_at_call 31; refine (HH _ (by assumption)).mono ?_; rintro e w' ⟨rfl, hb⟩)
        | (go_at_call 50; refine (HV _ (by assumption)).mono ?_; rintro e w' ⟨rfl, hb⟩))
      go_ret
      refine ⟨ret_bool (isw_of ?_), by assumption⟩
      rw [HI.out]
      have h0 := H0.out
      have h1 := H1.out
      simp
      try omega
    · have b1 : (v / 4096 % 8 != 2) = true := by simp [h1]
      have H1 := Lib.hid h1
      clear h1
      go_enter Tryd.func28, Tryd.ntmps28
      go_wp2_with (first
        | (go_at_call 19; refine (HS _ (by assumption)).mono ?_; rintro e w' ⟨rfl, hb⟩)
        | (go_at_call 9; refine (HO _ (by assumption)).mono ?_; rintro e w' ⟨rfl, hb⟩)
        | (go_at_call 11; refine (HF _ (by assumption)).mono ?_; rintro e w' ⟨rfl, hb⟩)
        | (go_at_call 49; refine (HT _ (by assumption)).mono ?_; rintro e w' ⟨rfl, hb⟩)
        | (go_at_call 31; refine (HH _ (by assumption)).mono ?_; rintro e w' ⟨rfl, hb⟩)
        | (go_at_call 50; refine (HV _ (by assumption)).mono ?_; rintro e w' ⟨rfl, hb⟩))
      go_ret
      refine ⟨ret_bool (isw_of ?_), by assumption⟩
      rw [HI.out]
      have h0 := H0.out
      have h1 := H1.out
      simp
      try omega
  · have b0 : (v % 128 != 47) = true := by simp [h0]
    have H0 := Lib.hid h0
    clear h0
    go_enter Tryd.func28, Tryd.ntmps28
    go_wp2_with (first
      | (go_at_call 19; refine (HS _ (by assumption)).mono ?_; rintro e w' ⟨rfl, hb⟩)
      | (go_at_call 9; refine (HO _ (by assumption)).mono ?_; rintro e w' ⟨rfl, hb⟩)
      | (go_at_call 11; refine (HF _ (by assumption)).mono ?_; rintro e w' ⟨rfl, hb⟩)
      | (go_at_call 49; refine (HT _ (by assumption)).mono ?_; rintro e w' ⟨rfl, hb⟩)
      | (go_at_call 31; refine (HH _ (by assumption)).mono ?_; rintro e w' ⟨rfl, hb⟩)
      | (go_at_call 50; refine (HV _ (by assumption)).mono ?_; rintro e w' ⟨rfl, hb⟩))
    go_ret
    refine ⟨ret_bool (isw_of ?_), by assumption⟩
    rw [HI.out]
    have h0 := H0.out
    simp
    try omega
set_option maxRecDepth 100000 in
theorem is_60 : IsAt 60 := by
  intro v w v0 v1
  have HS := fun w1 h => sort_bw w w1 h 60 (by decide) (by decide)
  have HO : ∀ w1, BW w w1 → _ := fun w1 h => (oc_60 w1).mono fun _ _ ⟨he, hb⟩ => And.intro he (BW.on h hb)
  have HF : ∀ w1, BW w w1 → _ := fun w1 h => (fc_60 w1).mono fun _ _ ⟨he, hb⟩ => And.intro he (BW.on h hb)
  have HT : ∀ w1, BW w w1 → _ := fun w1 h => (tu_60 w1).mono fun _ _ ⟨he, hb⟩ => And.intro he (BW.on h hb)
  have HH : ∀ w1, BW w w1 → _ := fun w1 h => (sh_60 w1).mono fun _ _ ⟨he, hb⟩ => And.intro he (BW.on h hb)
  have HV : ∀ w1, BW w w1 → _ := fun w1 h => (fv_60 w1).mono fun _ _ ⟨he, hb⟩ => And.intro he (BW.on h hb)
  have HB : BW w w := Below.refl _ _
  rw [show srt 60 = 12 by decide] at HS
  rw [show ocV 60 = 47 by decide] at HO
  rw [show f3V 60 = 2 by decide] at HF
  rw [show turB 60 = false by decide] at HT
  rw [show shV 60 = 0 by decide] at HH
  rw [show agV 60 = 4 by decide] at HV
  have HI : Hid (Isw v 60 ↔ v % 128 = 47 ∧ v / 4096 % 8 = 2 ∧ v / 134217728 = 4) := by
    show _ ↔ _
    unfold Isw
    rw [show ocV 60 = 47 by decide, show f3V 60 = 2 by decide, show agV 60 = 4 by decide, show kdV 60 = 5 by decide]
    simp
    try omega
  by_cases h0 : v % 128 = 47
  · have b0 : (v % 128 != 47) = false := by simp [h0]
    have H0 := Lib.hid h0
    clear h0
    by_cases h1 : v / 4096 % 8 = 2
    · have b1 : (v / 4096 % 8 != 2) = false := by simp [h1]
      have H1 := Lib.hid h1
      clear h1
      go_enter Tryd.func28, Tryd.ntmps28
      go_wp2_with (first
        | (go_at_call 19; refine (HS _ (by assumption)).mono ?_; rintro e w' ⟨rfl, hb⟩)
        | (go_at_call 9; refine (HO _ (by assumption)).mono ?_; rintro e w' ⟨rfl, hb⟩)
        | (go_at_call 11; refine (HF _ (by assumption)).mono ?_; rintro e w' ⟨rfl, hb⟩)
        | (go_at_call 49; refine (HT _ (by assumption)).mono ?_; rintro e w' ⟨rfl, hb⟩)
        | (go_at_call 31; refine (HH _ (by assumption)).mono ?_; rintro e w' ⟨rfl, hb⟩)
        | (go_at_call 50; refine (HV _ (by assumption)).mono ?_; rintro e w' ⟨rfl, hb⟩))
      go_ret
      refine ⟨ret_bool (isw_of ?_), by assumption⟩
      rw [HI.out]
      have h0 := H0.out
      have h1 := H1.out
      simp
      try omega
    · have b1 : (v / 4096 % 8 != 2) = true := by simp [h1]
      have H1 := Lib.hid h1
      clear h1
      go_enter Tryd.func28, Tryd.ntmps28
      go_wp2_with (first
        | (go_at_call 19; refine (HS _ (by assumption)).mono ?_; rintro e w' ⟨rfl, hb⟩)
        | (go_at_call 9; refine (HO _ (by assumption)).mono ?_; rintro e w' ⟨rfl, hb⟩)
        | (go_at_call 11; refine (HF _ (by assumption)).mono ?_; rintro e w' ⟨rfl, hb⟩)
        | (go_at_call 49; refine (HT _ (by assumption)).mono ?_; rintro e w' ⟨rfl, hb⟩)
        | (go_at_call 31; refine (HH _ (by assumption)).mono ?_; rintro e w' ⟨rfl, hb⟩)
        | (go_at_call 50; refine (HV _ (by assumption)).mono ?_; rintro e w' ⟨rfl, hb⟩))
      go_ret
      refine ⟨ret_bool (isw_of ?_), by assumption⟩
      rw [HI.out]
      have h0 := H0.out
      have h1 := H1.out
      simp
      try omega
  · have b0 : (v % 128 != 47) = true := by simp [h0]
    have H0 := Lib.hid h0
    clear h0
    go_enter Tryd.func28, Tryd.ntmps28
    go_wp2_with (first
      | (go_at_call 19; refine (HS _ (by assumption)).mono ?_; rintro e w' ⟨rfl, hb⟩)
      | (go_at_call 9; refine (HO _ (by assumption)).mono ?_; rintro e w' ⟨rfl, hb⟩)
      | (go_at_call 11; refine (HF _ (by assumption)).mono ?_; rintro e w' ⟨rfl, hb⟩)
      | (go_at_call 49; refine (HT _ (by assumption)).mono ?_; rintro e w' ⟨rfl, hb⟩)
      | (go_at_call 31; refine (HH _ (by assumption)).mono ?_; rintro e w' ⟨rfl, hb⟩)
      | (go_at_call 50; refine (HV _ (by assumption)).mono ?_; rintro e w' ⟨rfl, hb⟩))
    go_ret
    refine ⟨ret_bool (isw_of ?_), by assumption⟩
    rw [HI.out]
    have h0 := H0.out
    simp
    try omega
set_option maxRecDepth 100000 in
theorem is_61 : IsAt 61 := by
  intro v w v0 v1
  have HS := fun w1 h => sort_bw w w1 h 61 (by decide) (by decide)
  have HO : ∀ w1, BW w w1 → _ := fun w1 h => (oc_61 w1).mono fun _ _ ⟨he, hb⟩ => And.intro he (BW.on h hb)
  have HF : ∀ w1, BW w w1 → _ := fun w1 h => (fc_61 w1).mono fun _ _ ⟨he, hb⟩ => And.intro he (BW.on h hb)
  have HT : ∀ w1, BW w w1 → _ := fun w1 h => (tu_61 w1).mono fun _ _ ⟨he, hb⟩ => And.intro he (BW.on h hb)
  have HH : ∀ w1, BW w w1 → _ := fun w1 h => (sh_61 w1).mono fun _ _ ⟨he, hb⟩ => And.intro he (BW.on h hb)
  have HV : ∀ w1, BW w w1 → _ := fun w1 h => (fv_61 w1).mono fun _ _ ⟨he, hb⟩ => And.intro he (BW.on h hb)
  have HB : BW w w := Below.refl _ _
  rw [show srt 61 = 12 by decide] at HS
  rw [show ocV 61 = 47 by decide] at HO
  rw [show f3V 61 = 2 by decide] at HF
  rw [show turB 61 = false by decide] at HT
  rw [show shV 61 = 0 by decide] at HH
  rw [show agV 61 = 12 by decide] at HV
  have HI : Hid (Isw v 61 ↔ v % 128 = 47 ∧ v / 4096 % 8 = 2 ∧ v / 134217728 = 12) := by
    show _ ↔ _
    unfold Isw
    rw [show ocV 61 = 47 by decide, show f3V 61 = 2 by decide, show agV 61 = 12 by decide, show kdV 61 = 5 by decide]
    simp
    try omega
  by_cases h0 : v % 128 = 47
  · have b0 : (v % 128 != 47) = false := by simp [h0]
    have H0 := Lib.hid h0
    clear h0
    by_cases h1 : v / 4096 % 8 = 2
    · have b1 : (v / 4096 % 8 != 2) = false := by simp [h1]
      have H1 := Lib.hid h1
      clear h1
      go_enter Tryd.func28, Tryd.ntmps28
      go_wp2_with (first
        | (go_at_call 19; refine (HS _ (by assumption)).mono ?_; rintro e w' ⟨rfl, hb⟩)
        | (go_at_call 9; refine (HO _ (by assumption)).mono ?_; rintro e w' ⟨rfl, hb⟩)
        | (go_at_call 11; refine (HF _ (by assumption)).mono ?_; rintro e w' ⟨rfl, hb⟩)
        | (go_at_call 49; refine (HT _ (by assumption)).mono ?_; rintro e w' ⟨rfl, hb⟩)
        | (go_at_call 31; refine (HH _ (by assumption)).mono ?_; rintro e w' ⟨rfl, hb⟩)
        | (go_at_call 50; refine (HV _ (by assumption)).mono ?_; rintro e w' ⟨rfl, hb⟩))
      go_ret
      refine ⟨ret_bool (isw_of ?_), by assumption⟩
      rw [HI.out]
      have h0 := H0.out
      have h1 := H1.out
      simp
      try omega
    · have b1 : (v / 4096 % 8 != 2) = true := by simp [h1]
      have H1 := Lib.hid h1
      clear h1
      go_enter Tryd.func28, Tryd.ntmps28
      go_wp2_with (first
        | (go_at_call 19; refine (HS _ (by assumption)).mono ?_; rintro e w' ⟨rfl, hb⟩)
        | (go_at_call 9; refine (HO _ (by assumption)).mono ?_; rintro e w' ⟨rfl, hb⟩)
        | (go_at_call 11; refine (HF _ (by assumption)).mono ?_; rintro e w' ⟨rfl, hb⟩)
        | (go_at_call 49; refine (HT _ (by assumption)).mono ?_; rintro e w' ⟨rfl, hb⟩)
        | (go_at_call 31; refine (HH _ (by assumption)).mono ?_; rintro e w' ⟨rfl, hb⟩)
        | (go_at_call 50; refine (HV _ (by assumption)).mono ?_; rintro e w' ⟨rfl, hb⟩))
      go_ret
      refine ⟨ret_bool (isw_of ?_), by assumption⟩
      rw [HI.out]
      have h0 := H0.out
      have h1 := H1.out
      simp
      try omega
  · have b0 : (v % 128 != 47) = true := by simp [h0]
    have H0 := Lib.hid h0
    clear h0
    go_enter Tryd.func28, Tryd.ntmps28
    go_wp2_with (first
      | (go_at_call 19; refine (HS _ (by assumption)).mono ?_; rintro e w' ⟨rfl, hb⟩)
      | (go_at_call 9; refine (HO _ (by assumption)).mono ?_; rintro e w' ⟨rfl, hb⟩)
      | (go_at_call 11; refine (HF _ (by assumption)).mono ?_; rintro e w' ⟨rfl, hb⟩)
      | (go_at_call 49; refine (HT _ (by assumption)).mono ?_; rintro e w' ⟨rfl, hb⟩)
      | (go_at_call 31; refine (HH _ (by assumption)).mono ?_; rintro e w' ⟨rfl, hb⟩)
      | (go_at_call 50; refine (HV _ (by assumption)).mono ?_; rintro e w' ⟨rfl, hb⟩))
    go_ret
    refine ⟨ret_bool (isw_of ?_), by assumption⟩
    rw [HI.out]
    have h0 := H0.out
    simp
    try omega
set_option maxRecDepth 100000 in
theorem is_62 : IsAt 62 := by
  intro v w v0 v1
  have HS := fun w1 h => sort_bw w w1 h 62 (by decide) (by decide)
  have HO : ∀ w1, BW w w1 → _ := fun w1 h => (oc_62 w1).mono fun _ _ ⟨he, hb⟩ => And.intro he (BW.on h hb)
  have HF : ∀ w1, BW w w1 → _ := fun w1 h => (fc_62 w1).mono fun _ _ ⟨he, hb⟩ => And.intro he (BW.on h hb)
  have HT : ∀ w1, BW w w1 → _ := fun w1 h => (tu_62 w1).mono fun _ _ ⟨he, hb⟩ => And.intro he (BW.on h hb)
  have HH : ∀ w1, BW w w1 → _ := fun w1 h => (sh_62 w1).mono fun _ _ ⟨he, hb⟩ => And.intro he (BW.on h hb)
  have HV : ∀ w1, BW w w1 → _ := fun w1 h => (fv_62 w1).mono fun _ _ ⟨he, hb⟩ => And.intro he (BW.on h hb)
  have HB : BW w w := Below.refl _ _
  rw [show srt 62 = 12 by decide] at HS
  rw [show ocV 62 = 47 by decide] at HO
  rw [show f3V 62 = 2 by decide] at HF
  rw [show turB 62 = false by decide] at HT
  rw [show shV 62 = 0 by decide] at HH
  rw [show agV 62 = 8 by decide] at HV
  have HI : Hid (Isw v 62 ↔ v % 128 = 47 ∧ v / 4096 % 8 = 2 ∧ v / 134217728 = 8) := by
    show _ ↔ _
    unfold Isw
    rw [show ocV 62 = 47 by decide, show f3V 62 = 2 by decide, show agV 62 = 8 by decide, show kdV 62 = 5 by decide]
    simp
    try omega
  by_cases h0 : v % 128 = 47
  · have b0 : (v % 128 != 47) = false := by simp [h0]
    have H0 := Lib.hid h0
    clear h0
    by_cases h1 : v / 4096 % 8 = 2
    · have b1 : (v / 4096 % 8 != 2) = false := by simp [h1]
      have H1 := Lib.hid h1
      clear h1
      go_enter Tryd.func28, Tryd.ntmps28
      go_wp2_with (first
        | (go_at_call 19; refine (HS _ (by assumption)).mono ?_; rintro e w' ⟨rfl, hb⟩)
        | (go_at_call 9; refine (HO _ (by assumption)).mono ?_; rintro e w' ⟨rfl, hb⟩)
        | (go_at_call 11; refine (HF _ (by assumption)).mono ?_; rintro e w' ⟨rfl, hb⟩)
        | (go_at_call 49; refine (HT _ (by assumption)).mono ?_; rintro e w' ⟨rfl, hb⟩)
        | (go_at_call 31; refine (HH _ (by assumption)).mono ?_; rintro e w' ⟨rfl, hb⟩)
        | (go_at_call 50; refine (HV _ (by assumption)).mono ?_; rintro e w' ⟨rfl, hb⟩))
      go_ret
      refine ⟨ret_bool (isw_of ?_), by assumption⟩
      rw [HI.out]
      have h0 := H0.out
      have h1 := H1.out
      simp
      try omega
    · have b1 : (v / 4096 % 8 != 2) = true := by simp [h1]
      have H1 := Lib.hid h1
      clear h1
      go_enter Tryd.func28, Tryd.ntmps28
      go_wp2_with (first
        | (go_at_call 19; refine (HS _ (by assumption)).mono ?_; rintro e w' ⟨rfl, hb⟩)
        | (go_at_call 9; refine (HO _ (by assumption)).mono ?_; rintro e w' ⟨rfl, hb⟩)
        | (go_at_call 11; refine (HF _ (by assumption)).mono ?_; rintro e w' ⟨rfl, hb⟩)
        | (go_at_call 49; refine (HT _ (by assumption)).mono ?_; rintro e w' ⟨rfl, hb⟩)
        | (go_at_call 31; refine (HH _ (by assumption)).mono ?_; rintro e w' ⟨rfl, hb⟩)
        | (go_at_call 50; refine (HV _ (by assumption)).mono ?_; rintro e w' ⟨rfl, hb⟩))
      go_ret
      refine ⟨ret_bool (isw_of ?_), by assumption⟩
      rw [HI.out]
      have h0 := H0.out
      have h1 := H1.out
      simp
      try omega
  · have b0 : (v % 128 != 47) = true := by simp [h0]
    have H0 := Lib.hid h0
    clear h0
    go_enter Tryd.func28, Tryd.ntmps28
    go_wp2_with (first
      | (go_at_call 19; refine (HS _ (by assumption)).mono ?_; rintro e w' ⟨rfl, hb⟩)
      | (go_at_call 9; refine (HO _ (by assumption)).mono ?_; rintro e w' ⟨rfl, hb⟩)
      | (go_at_call 11; refine (HF _ (by assumption)).mono ?_; rintro e w' ⟨rfl, hb⟩)
      | (go_at_call 49; refine (HT _ (by assumption)).mono ?_; rintro e w' ⟨rfl, hb⟩)
      | (go_at_call 31; refine (HH _ (by assumption)).mono ?_; rintro e w' ⟨rfl, hb⟩)
      | (go_at_call 50; refine (HV _ (by assumption)).mono ?_; rintro e w' ⟨rfl, hb⟩))
    go_ret
    refine ⟨ret_bool (isw_of ?_), by assumption⟩
    rw [HI.out]
    have h0 := H0.out
    simp
    try omega
set_option maxRecDepth 100000 in
theorem is_63 : IsAt 63 := by
  intro v w v0 v1
  have HS := fun w1 h => sort_bw w w1 h 63 (by decide) (by decide)
  have HO : ∀ w1, BW w w1 → _ := fun w1 h => (oc_63 w1).mono fun _ _ ⟨he, hb⟩ => And.intro he (BW.on h hb)
  have HF : ∀ w1, BW w w1 → _ := fun w1 h => (fc_63 w1).mono fun _ _ ⟨he, hb⟩ => And.intro he (BW.on h hb)
  have HT : ∀ w1, BW w w1 → _ := fun w1 h => (tu_63 w1).mono fun _ _ ⟨he, hb⟩ => And.intro he (BW.on h hb)
  have HH : ∀ w1, BW w w1 → _ := fun w1 h => (sh_63 w1).mono fun _ _ ⟨he, hb⟩ => And.intro he (BW.on h hb)
  have HV : ∀ w1, BW w w1 → _ := fun w1 h => (fv_63 w1).mono fun _ _ ⟨he, hb⟩ => And.intro he (BW.on h hb)
  have HB : BW w w := Below.refl _ _
  rw [show srt 63 = 12 by decide] at HS
  rw [show ocV 63 = 47 by decide] at HO
  rw [show f3V 63 = 2 by decide] at HF
  rw [show turB 63 = false by decide] at HT
  rw [show shV 63 = 0 by decide] at HH
  rw [show agV 63 = 16 by decide] at HV
  have HI : Hid (Isw v 63 ↔ v % 128 = 47 ∧ v / 4096 % 8 = 2 ∧ v / 134217728 = 16) := by
    show _ ↔ _
    unfold Isw
    rw [show ocV 63 = 47 by decide, show f3V 63 = 2 by decide, show agV 63 = 16 by decide, show kdV 63 = 5 by decide]
    simp
    try omega
  by_cases h0 : v % 128 = 47
  · have b0 : (v % 128 != 47) = false := by simp [h0]
    have H0 := Lib.hid h0
    clear h0
    by_cases h1 : v / 4096 % 8 = 2
    · have b1 : (v / 4096 % 8 != 2) = false := by simp [h1]
      have H1 := Lib.hid h1
      clear h1
      go_enter Tryd.func28, Tryd.ntmps28
      go_wp2_with (first
        | (go_at_call 19; refine (HS _ (by assumption)).mono ?_; rintro e w' ⟨rfl, hb⟩)
        | (go_at_call 9; refine (HO _ (by assumption)).mono ?_; rintro e w' ⟨rfl, hb⟩)
        | (go_at_call 11; refine (HF _ (by assumption)).mono ?_; rintro e w' ⟨rfl, hb⟩)
        | (go_at_call 49; refine (HT _ (by assumption)).mono ?_; rintro e w' ⟨rfl, hb⟩)
        | (go_at_call 31; refine (HH _ (by assumption)).mono ?_; rintro e w' ⟨rfl, hb⟩)
        | (go_at_call 50; refine (HV _ (by assumption)).mono ?_; rintro e w' ⟨rfl, hb⟩))
      go_ret
      refine ⟨ret_bool (isw_of ?_), by assumption⟩
      rw [HI.out]
      have h0 := H0.out
      have h1 := H1.out
      simp
      try omega
    · have b1 : (v / 4096 % 8 != 2) = true := by simp [h1]
      have H1 := Lib.hid h1
      clear h1
      go_enter Tryd.func28, Tryd.ntmps28
      go_wp2_with (first
        | (go_at_call 19; refine (HS _ (by assumption)).mono ?_; rintro e w' ⟨rfl, hb⟩)
        | (go_at_call 9; refine (HO _ (by assumption)).mono ?_; rintro e w' ⟨rfl, hb⟩)
        | (go_at_call 11; refine (HF _ (by assumption)).mono ?_; rintro e w' ⟨rfl, hb⟩)
        | (go_at_call 49; refine (HT _ (by assumption)).mono ?_; rintro e w' ⟨rfl, hb⟩)
        | (go_at_call 31; refine (HH _ (by assumption)).mono ?_; rintro e w' ⟨rfl, hb⟩)
        | (go_at_call 50; refine (HV _ (by assumption)).mono ?_; rintro e w' ⟨rfl, hb⟩))
      go_ret
      refine ⟨ret_bool (isw_of ?_), by assumption⟩
      rw [HI.out]
      have h0 := H0.out
      have h1 := H1.out
      simp
      try omega
  · have b0 : (v % 128 != 47) = true := by simp [h0]
    have H0 := Lib.hid h0
    clear h0
    go_enter Tryd.func28, Tryd.ntmps28
    go_wp2_with (first
      | (go_at_call 19; refine (HS _ (by assumption)).mono ?_; rintro e w' ⟨rfl, hb⟩)
      | (go_at_call 9; refine (HO _ (by assumption)).mono ?_; rintro e w' ⟨rfl, hb⟩)
      | (go_at_call 11; refine (HF _ (by assumption)).mono ?_; rintro e w' ⟨rfl, hb⟩)
      | (go_at_call 49; refine (HT _ (by assumption)).mono ?_; rintro e w' ⟨rfl, hb⟩)
      | (go_at_call 31; refine (HH _ (by assumption)).mono ?_; rintro e w' ⟨rfl, hb⟩)
      | (go_at_call 50; refine (HV _ (by assumption)).mono ?_; rintro e w' ⟨rfl, hb⟩))
    go_ret
    refine ⟨ret_bool (isw_of ?_), by assumption⟩
    rw [HI.out]
    have h0 := H0.out
    simp
    try omega
set_option maxRecDepth 100000 in
theorem is_64 : IsAt 64 := by
  intro v w v0 v1
  have HS := fun w1 h => sort_bw w w1 h 64 (by decide) (by decide)
  have HO : ∀ w1, BW w w1 → _ := fun w1 h => (oc_64 w1).mono fun _ _ ⟨he, hb⟩ => And.intro he (BW.on h hb)
  have HF : ∀ w1, BW w w1 → _ := fun w1 h => (fc_64 w1).mono fun _ _ ⟨he, hb⟩ => And.intro he (BW.on h hb)
  have HT : ∀ w1, BW w w1 → _ := fun w1 h => (tu_64 w1).mono fun _ _ ⟨he, hb⟩ => And.intro he (BW.on h hb)
  have HH : ∀ w1, BW w w1 → _ := fun w1 h => (sh_64 w1).mono fun _ _ ⟨he, hb⟩ => And.intro he (BW.on h hb)
  have HV : ∀ w1, BW w w1 → _ := fun w1 h => (fv_64 w1).mono fun _ _ ⟨he, hb⟩ => And.intro he (BW.on h hb)
  have HB : BW w w := Below.refl _ _
  rw [show srt 64 = 12 by decide] at HS
  rw [show ocV 64 = 47 by decide] at HO
  rw [show f3V 64 = 2 by decide] at HF
  rw [show turB 64 = false by decide] at HT
  rw [show shV 64 = 0 by decide] at HH
  rw [show agV 64 = 20 by decide] at HV
  have HI : Hid (Isw v 64 ↔ v % 128 = 47 ∧ v / 4096 % 8 = 2 ∧ v / 134217728 = 20) := by
    show _ ↔ _
    unfold Isw
    rw [show ocV 64 = 47 by decide, show f3V 64 = 2 by decide, show agV 64 = 20 by decide, show kdV 64 = 5 by decide]
    simp
    try omega
  by_cases h0 : v % 128 = 47
  · have b0 : (v % 128 != 47) = false := by simp [h0]
    have H0 := Lib.hid h0
    clear h0
    by_cases h1 : v / 4096 % 8 = 2
    · have b1 : (v / 4096 % 8 != 2) = false := by simp [h1]
      have H1 := Lib.hid h1
      clear h1
      go_enter Tryd.func28, Tryd.ntmps28
      go_wp2_with (first
        | (go_at_call 19; refine (HS _ (by assumption)).mono ?_; rintro e w' ⟨rfl, hb⟩)
        | (go_at_call 9; refine (HO _ (by assumption)).mono ?_; rintro e w' ⟨rfl, hb⟩)
        | (go_at_call 11; refine (HF _ (by assumption)).mono ?_; rintro e w' ⟨rfl, hb⟩)
        | (go_at_call 49; refine (HT _ (by assumption)).mono ?_; rintro e w' ⟨rfl, hb⟩)
        | (go_at_call 31; refine (HH _ (by assumption)).mono ?_; rintro e w' ⟨rfl, hb⟩)
        | (go_at_call 50; refine (HV _ (by assumption)).mono ?_; rintro e w' ⟨rfl, hb⟩))
      go_ret
      refine ⟨ret_bool (isw_of ?_), by assumption⟩
      rw [HI.out]
      have h0 := H0.out
      have h1 := H1.out
      simp
      try omega
    · have b1 : (v / 4096 % 8 != 2) = true := by simp [h1]
      have H1 := Lib.hid h1
      clear h1
      go_enter Tryd.func28, Tryd.ntmps28
      go_wp2_with (first
        | (go_at_call 19; refine (HS _ (by assumption)).mono ?_; rintro e w' ⟨rfl, hb⟩)
        | (go_at_call 9; refine (HO _ (by assumption)).mono ?_; rintro e w' ⟨rfl, hb⟩)
        | (go_at_call 11; refine (HF _ (by assumption)).mono ?_; rintro e w' ⟨rfl, hb⟩)
        | (go_at_call 49; refine (HT _ (by assumption)).mono ?_; rintro e w' ⟨rfl, hb⟩)
        | (go_at_call 31; refine (HH _ (by assumption)).mono ?_; rintro e w' ⟨rfl, hb⟩)
        | (go_at_call 50; refine (HV _ (by assumption)).mono ?_; rintro e w' ⟨rfl, hb⟩))
      go_ret
      refine ⟨ret_bool (isw_of ?_), by assumption⟩
      rw [HI.out]
      have h0 := H0.out
      have h1 := H1.out
      simp
      try omega
  · have b0 : (v % 128 != 47) = true := by simp [h0]
    have H0 := Lib.hid h0
    clear h0
    go_enter Tryd.func28, Tryd.ntmps28
    go_wp2_with (first
      | (go_at_call 19; refine (HS _ (by assumption)).mono ?_; rintro e w' ⟨rfl, hb⟩)
      | (go_at_call 9; refine (HO _ (by assumption)).mono ?_; rintro e w' ⟨rfl, hb⟩)
      | (go_at_call 11; refine (HF _ (by assumption)).mono ?_; rintro e w' ⟨rfl, hb⟩)
      | (go_at_call 49; refine (HT _ (by assumption)).mono ?_; rintro e w' ⟨rfl, hb⟩)
      | (go_at_call 31; refine (HH _ (by assumption)).mono ?_; rintro e w' ⟨rfl, hb⟩)
      | (go_at_call 50; refine (HV _ (by assumption)).mono ?_; rintro e w' ⟨rfl, hb⟩))
    go_ret
    refine ⟨ret_bool (isw_of ?_), by assumption⟩
    rw [HI.out]
    have h0 := H0.out
    simp
    try omega
set_option maxRecDepth 100000 in
theorem is_65 : IsAt 65 := by
  intro v w v0 v1
  have HS := fun w1 h => sort_bw w w1 h 65 (by decide) (by decide)
  have HO : ∀ w1, BW w w1 → _ := fun w1 h => (oc_65 w1).mono fun _ _ ⟨he, hb⟩ => And.intro he (BW.on h hb)
  have HF : ∀ w1, BW w w1 → _ := fun w1 h => (fc_65 w1).mono fun _ _ ⟨he, hb⟩ => And.intro he (BW.on h hb)
  have HT : ∀ w1, BW w w1 → _ := fun w1 h => (tu_65 w1).mono fun _ _ ⟨he, hb⟩ => And.intro he (BW.on h hb)
  have HH : ∀ w1, BW w w1 → _ := fun w1 h => (sh_65 w1).mono fun _ _ ⟨he, hb⟩ => And.intro he (BW.on h hb)
  have HV : ∀ w1, BW w w1 → _ := fun w1 h => (fv_65 w1).mono fun _ _ ⟨he, hb⟩ => And.intro he (BW.on h hb)
  have HB : BW w w := Below.refl _ _
  rw [show srt 65 = 12 by decide] at HS
  rw [show ocV 65 = 47 by decide] at HO
  rw [show f3V 65 = 2 by decide] at HF
  rw [show turB 65 = false by decide] at HT
  rw [show shV 65 = 0 by decide] at HH
  rw [show agV 65 = 24 by decide] at HV
  have HI : Hid (Isw v 65 ↔ v % 128 = 47 ∧ v / 4096 % 8 = 2 ∧ v / 134217728 = 24) := by
    show _ ↔ _
    unfold Isw
    rw [show ocV 65 = 47 by decide, show f3V 65 = 2 by decide, show agV 65 = 24 by decide, show kdV 65 = 5 by decide]
    simp
    try omega
  by_cases h0 : v % 128 = 47
  · have b0 : (v % 128 != 47) = false := by simp [h0]
    have H0 := Lib.hid h0
    clear h0
    by_cases h1 : v / 4096 % 8 = 2
    · have b1 : (v / 4096 % 8 != 2) = false := by simp [h1]
      have H1 := Lib.hid h1
      clear h1
      go_enter Tryd.func28, Tryd.ntmps28
      go_wp2_with (first
        | (go_at_call 19; refine (HS _ (by assumption)).mono ?_; rintro e w' ⟨rfl, hb⟩)
        | (go_at_call 9; refine (HO _ (by assumption)).mono ?_; rintro e w' ⟨rfl, hb⟩)
        | (go_at_call 11; refine (HF _ (by assumption)).mono ?_; rintro e w' ⟨rfl, hb⟩)
        | (go_at_call 49; refine (HT _ (by assumption)).mono ?_; rintro e w' ⟨rfl, hb⟩)
        | (go_at_call 31; refine (HH _ (by assumption)).mono ?_; rintro e w' ⟨rfl, hb⟩)
        | (go_at_call 50; refine (HV _ (by assumption)).mono ?_; rintro e w' ⟨rfl, hb⟩))
      go_ret
      refine ⟨ret_bool (isw_of ?_), by assumption⟩
      rw [HI.out]
      have h0 := H0.out
      have h1 := H1.out
      simp
      try omega
    · have b1 : (v / 4096 % 8 != 2) = true := by simp [h1]
      have H1 := Lib.hid h1
      clear h1
      go_enter Tryd.func28, Tryd.ntmps28
      go_wp2_with (first
        | (go_at_call 19; refine (HS _ (by assumption)).mono ?_; rintro e w' ⟨rfl, hb⟩)
        | (go_at_call 9; refine (HO _ (by assumption)).mono ?_; rintro e w' ⟨rfl, hb⟩)
        | (go_at_call 11; refine (HF _ (by assumption)).mono ?_; rintro e w' ⟨rfl, hb⟩)
        | (go_at_call 49; refine (HT _ (by assumption)).mono ?_; rintro e w' ⟨rfl, hb⟩)
        | (go_at_call 31; refine (HH _ (by assumption)).mono ?_; rintro e w' ⟨rfl, hb⟩)
        | (go_at_call 50; refine (HV _ (by assumption)).mono ?_; rintro e w' ⟨rfl, hb⟩))
      go_ret
      refine ⟨ret_bool (isw_of ?_), by assumption⟩
      rw [HI.out]
      have h0 := H0.out
      have h1 := H1.out
      simp
      try omega
  · have b0 : (v % 128 != 47) = true := by simp [h0]
    have H0 := Lib.hid h0
    clear h0
    go_enter Tryd.func28, Tryd.ntmps28
    go_wp2_with (first
      | (go_at_call 19; refine (HS _ (by assumption)).mono ?_; rintro e w' ⟨rfl, hb⟩)
      | (go_at_call 9; refine (HO _ (by assumption)).mono ?_; rintro e w' ⟨rfl, hb⟩)
      | (go_at_call 11; refine (HF _ (by assumption)).mono ?_; rintro e w' ⟨rfl, hb⟩)
      | (go_at_call 49; refine (HT _ (by assumption)).mono ?_; rintro e w' ⟨rfl, hb⟩)
      | (go_at_call 31; refine (HH _ (by assumption)).mono ?_; rintro e w' ⟨rfl, hb⟩)
      | (go_at_call 50; refine (HV _ (by assumption)).mono ?_; rintro e w' ⟨rfl, hb⟩))
    go_ret
    refine ⟨ret_bool (isw_of ?_), by assumption⟩
    rw [HI.out]
    have h0 := H0.out
    simp
    try omega
set_option maxRecDepth 100000 in
theorem is_66 : IsAt 66 := by
  intro v w v0 v1
  have HS := fun w1 h => sort_bw w w1 h 66 (by decide) (by decide)
  have HO : ∀ w1, BW w w1 → _ := fun w1 h => (oc_66 w1).mono fun _ _ ⟨he, hb⟩ => And.intro he (BW.on h hb)
  have HF : ∀ w1, BW w w1 → _ := fun w1 h => (fc_66 w1).mono fun _ _ ⟨he, hb⟩ => And.intro he (BW.on h hb)
  have HT : ∀ w1, BW w w1 → _ := fun w1 h => (tu_66 w1).mono fun _ _ ⟨he, hb⟩ => And.intro he (BW.on h hb)
  have HH : ∀ w1, BW w w1 → _ := fun w1 h => (sh_66 w1).mono fun _ _ ⟨he, hb⟩ => And.intro he (BW.on h hb)
  have HV : ∀ w1, BW w w1 → _ := fun w1 h => (fv_66 w1).mono fun _ _ ⟨he, hb⟩ => And.intro he (BW.on h hb)
  have HB : BW w w := Below.refl _ _
  rw [show srt 66 = 12 by decide] at HS
  rw [show ocV 66 = 47 by decide] at HO
  rw [show f3V 66 = 2 by decide] at HF
  rw [show turB 66 = false by decide] at HT
  rw [show shV 66 = 0 by decide] at HH
  rw [show agV 66 = 28 by decide] at HV
  have HI : Hid (Isw v 66 ↔ v % 128 = 47 ∧ v / 4096 % 8 = 2 ∧ v / 134217728 = 28) := by
    show _ ↔ _
    unfold Isw
    rw [show ocV 66 = 47 by decide, show f3V 66 = 2 by decide, show agV 66 = 28 by decide, show kdV 66 = 5 by decide]
    simp
    try omega
  by_cases h0 : v % 128 = 47
  · have b0 : (v % 128 != 47) = false := by simp [h0]
    have H0 := Lib.hid h0
    clear h0
    by_cases h1 : v / 4096 % 8 = 2
    · have b1 : (v / 4096 % 8 != 2) = false := by simp [h1]
      have H1 := Lib.hid h1
      clear h1
      go_enter Tryd.func28, Tryd.ntmps28
      go_wp2_with (first
        | (go_at_call 19; refine (HS _ (by assumption)).mono ?_; rintro e w' ⟨rfl, hb⟩)
        | (go_at_call 9; refine (HO _ (by assumption)).mono ?_; rintro e w' ⟨rfl, hb⟩)
        | (go_at_call 11; refine (HF _ (by assumption)).mono ?_; rintro e w' ⟨rfl, hb⟩)
        | (go_at_call 49; refine (HT _ (by assumption)).mono ?_; rintro e w' ⟨rfl, hb⟩)
        | (go_at_call 31; refine (HH _ (by assumption)).mono ?_; rintro e w' ⟨rfl, hb⟩)
        | (go_at_call 50; refine (HV _ (by assumption)).mono ?_; rintro e w' ⟨rfl, hb⟩))
      go_ret
      refine ⟨ret_bool (isw_of ?_), by assumption⟩
      rw [HI.out]
      have h0 := H0.out
      have h1 := H1.out
      simp
      try omega
    · have b1 : (v / 4096 % 8 != 2) = true := by simp [h1]
      have H1 := Lib.hid h1
      clear h1
      go_enter Tryd.func28, Tryd.ntmps28
      go_wp2_with (first
        | (go_at_call 19; refine (HS _ (by assumption)).mono ?_; rintro e w' ⟨rfl, hb⟩)
        | (go_at_call 9; refine (HO _ (by assumption)).mono ?_; rintro e w' ⟨rfl, hb⟩)
        | (go_at_call 11; refine (HF _ (by assumption)).mono ?_; rintro e w' ⟨rfl, hb⟩)
        | (go_at_call 49; refine (HT _ (by assumption)).mono ?_; rintro e w' ⟨rfl, hb⟩)
        | (go_at_call 31; refine (HH _ (by assumption)).mono ?_; rintro e w' ⟨rfl, hb⟩)
        | (go_at_call 50; refine (HV _ (by assumption)).mono ?_; rintro e w' ⟨rfl, hb⟩))
      go_ret
      refine ⟨ret_bool (isw_of ?_), by assumption⟩
      rw [HI.out]
      have h0 := H0.out
      have h1 := H1.out
      simp
      try omega
  · have b0 : (v % 128 != 47) = true := by simp [h0]
    have H0 := Lib.hid h0
    clear h0
    go_enter Tryd.func28, Tryd.ntmps28
    go_wp2_with (first
      | (go_at_call 19; refine (HS _ (by assumption)).mono ?_; rintro e w' ⟨rfl, hb⟩)
      | (go_at_call 9; refine (HO _ (by assumption)).mono ?_; rintro e w' ⟨rfl, hb⟩)
      | (go_at_call 11; refine (HF _ (by assumption)).mono ?_; rintro e w' ⟨rfl, hb⟩)
      | (go_at_call 49; refine (HT _ (by assumption)).mono ?_; rintro e w' ⟨rfl, hb⟩)
      | (go_at_call 31; refine (HH _ (by assumption)).mono ?_; rintro e w' ⟨rfl, hb⟩)
      | (go_at_call 50; refine (HV _ (by assumption)).mono ?_; rintro e w' ⟨rfl, hb⟩))
    go_ret
    refine ⟨ret_bool (isw_of ?_), by assumption⟩
    rw [HI.out]
    have h0 := H0.out
    simp
    try omega
set_option maxRecDepth 100000 in
theorem is_67 : IsAt 67 := by
  intro v w v0 v1
  have HS := fun w1 h => sort_bw w w1 h 67 (by decide) (by decide)
  have HO : ∀ w1, BW w w1 → _ := fun w1 h => (oc_67 w1).mono fun _ _ ⟨he, hb⟩ => And.intro he (BW.on h hb)
  have HF : ∀ w1, BW w w1 → _ := fun w1 h => (fc_67 w1).mono fun _ _ ⟨he, hb⟩ => And.intro he (BW.on h hb)
  have HT : ∀ w1, BW w w1 → _ := fun w1 h => (tu_67 w1).mono fun _ _ ⟨he, hb⟩ => And.intro he (BW.on h hb)
  have HH : ∀ w1, BW w w1 → _ := fun w1 h => (sh_67 w1).mono fun _ _ ⟨he, hb⟩ => And.intro he (BW.on h hb)
  have HV : ∀ w1, BW w w1 → _ := fun w1 h => (fv_67 w1).mono fun _ _ ⟨he, hb⟩ => And.intro he (BW.on h hb)
  have HB : BW w w := Below.refl _ _
  rw [show srt 67 = 12 by decide] at HS
  rw [show ocV 67 = 47 by decide] at HO
  rw [show f3V 67 = 3 by decide] at HF
  rw [show turB 67 = false by decide] at HT
  rw [show shV 67 = 0 by decide] at HH
  rw [show agV 67 = 1 by decide] at HV
  have HI : Hid (Isw v 67 ↔ v % 128 = 47 ∧ v / 4096 % 8 = 3 ∧ v / 134217728 = 1) := by
    show _ ↔ _
    unfold Isw
    rw [show ocV 67 = 47 by decide, show f3V 67 = 3 by decide, show agV 67 = 1 by decide, show kdV 67 = 5 by decide]
    simp
    try omega
  by_cases h0 : v % 128 = 47
  · have b0 : (v % 128 != 47) = false := by simp [h0]
    have H0 := Lib.hid h0
    clear h0
    by_cases h1 : v / 4096 % 8 = 3
    · have b1 : (v / 4096 % 8 != 3) = false := by simp [h1]
      have H1 := Lib.hid h1
      clear h1
      go_enter Tryd.func28, Tryd.ntmps28
      go_wp2_with (first
        | (go_at_call 19; refine (HS _ (by assumption)).mono ?_; rintro e w' ⟨rfl, hb⟩)
        | (go_at_call 9; refine (HO _ (by assumption)).mono ?_; rintro e w' ⟨rfl, hb⟩)
        | (go_at_call 11; refine (HF _ (by assumption)).mono ?_; rintro e w' ⟨rfl, hb⟩)
        | (go_at_call 49; refine (HT _ (by assumption)).mono ?_; rintro e w' ⟨rfl, hb⟩)
        | (go_at_call 31; refine (HH _ (by assumption)).mono ?_; rintro e w' ⟨rfl, hb⟩)
        | (go_at_call 50; refine (HV _ (by assumption)).mono ?_; rintro e w' ⟨rfl, hb⟩))
      go_ret
      refine ⟨ret_bool (isw_of ?_), by assumption⟩
      rw [HI.out]
      have h0 := H0.out
      have h1 := H1.out
      simp
      try omega
    · have b1 : (v / 4096 % 8 != 3) = true := by simp [h1]
      have H1 := Lib.hid h1
      clear h1
      go_enter Tryd.func28, Tryd.ntmps28
      go_wp2_with (first
        | (go_at_call 19; refine (HS _ (by assumption)).mono ?_; rintro e w' ⟨rfl, hb⟩)
        | (go_at_call 9; refine (HO _ (by assumption)).mono ?_; rintro e w' ⟨rfl, hb⟩)
        | (go_at_call 11; refine (HF _ (by assumption)).mono ?_; rintro e w' ⟨rfl, hb⟩)
        | (go_at_call 49; refine (HT _ (by assumption)).mono ?_; rintro e w' ⟨rfl, hb⟩)
        | (go_at_call 31; refine (HH _ (by assumption)).mono ?_; rintro e w' ⟨rfl, hb⟩)
        | (go_at_call 50; refine (HV _ (by assumption)).mono ?_; rintro e w' ⟨rfl, hb⟩))
      go_ret
      refine ⟨ret_bool (isw_of ?_), by assumption⟩
      rw [HI.out]
      have h0 := H0.out
      have h1 := H1.out
      simp
      try omega
  · have b0 : (v % 128 != 47) = true := by simp [h0]
    have H0 := Lib.hid h0
    clear h0
    go_enter Tryd.func28, Tryd.ntmps28
    go_wp2_with (first
      | (go_at_call 19; refine (HS _ (by assumption)).mono ?_; rintro e w' ⟨rfl, hb⟩)
      | (go_at_call 9; refine (HO _ (by assumption)).mono ?_; rintro e w' ⟨rfl, hb⟩)
      | (go_at_call 11; refine (HF _ (by assumption)).mono ?_; rintro e w' ⟨rfl, hb⟩)
      | (go_at_call 49; refine (HT _ (by assumption)).mono ?_; rintro e w' ⟨rfl, hb⟩)
      | (go_at_call 31; refine (HH _ (by assumption)).mono ?_; rintro e w' ⟨rfl, hb⟩)
      | (go_at_call 50; refine (HV _ (by assumption)).mono ?_; rintro e w' ⟨rfl, hb⟩))
    go_ret
    refine ⟨ret_bool (isw_of ?_), by assumption⟩
    rw [HI.out]
    have h0 := H0.out
    simp
    try omega
set_option maxRecDepth 100000 in
theorem is_68 : IsAt 68 := by
  intro v w v0 v1
  have HS := fun w1 h => sort_bw w w1 h 68 (by decide) (by decide)
  have HO : ∀ w1, BW w w1 → _ := fun w1 h => (oc_68 w1).mono fun _ _ ⟨he, hb⟩ => And.intro he (BW.on h hb)
  have HF : ∀ w1, BW w w1 → _ := fun w1 h => (fc_68 w1).mono fun _ _ ⟨he, hb⟩ => And.intro he (BW.on h hb)
  have HT : ∀ w1, BW w w1 → _ := fun w1 h => (tu_68 w1).mono fun _ _ ⟨he, hb⟩ => And.intro he (BW.on h hb)
  have HH : ∀ w1, BW w w1 → _ := fun w1 h => (sh_68 w1).mono fun _ _ ⟨he, hb⟩ => And.intro he (BW.on h hb)
  have HV : ∀ w1, BW w w1 → _ := fun w1 h => (fv_68 w1).mono fun _ _ ⟨he, hb⟩ => And.intro he (BW.on h hb)
  have HB : BW w w := Below.refl _ _
  rw [show srt 68 = 12 by decide] at HS
  rw [show ocV 68 = 47 by decide] at HO
  rw [show f3V 68 = 3 by decide] at HF
  rw [show turB 68 = false by decide] at HT
  rw [show shV 68 = 0 by decide] at HH
  rw [show agV 68 = 0 by decide] at HV
  have HI : Hid (Isw v 68 ↔ v % 128 = 47 ∧ v / 4096 % 8 = 3 ∧ v / 134217728 = 0) := by
    show _ ↔ _
    unfold Isw
    rw [show ocV 68 = 47 by decide, show f3V 68 = 3 by decide, show agV 68 = 0 by decide, show kdV 68 = 5 by decide]
    simp
    try omega
  by_cases h0 : v % 128 = 47
  · have b0 : (v % 128 != 47) = false := by simp [h0]
    have H0 := Lib.hid h0
    clear h0
    by_cases h1 : v / 4096 % 8 = 3
    · have b1 : (v / 4096 % 8 != 3) = false := by simp [h1]
      have H1 := Lib.hid h1
      clear h1
      go_enter Tryd.func28, Tryd.ntmps28
      go_wp2_with (first
        | (go_at_call 19; refine (HS _ (by assumption)).mono ?_; rintro e w' ⟨rfl, hb⟩)
        | (go_at_call 9; refine (HO _ (by assumption)).mono ?_; rintro e w' ⟨rfl, hb⟩)
        | (go_at_call 11; refine (HF _ (by assumption)).mono ?_; rintro e w' ⟨rfl, hb⟩)
        | (go_at_call 49; refine (HT _ (by assumption)).mono ?_; rintro e w' ⟨rfl, hb⟩)
        | (go_at_call 31; refine (HH _ (by assumption)).mono ?_; rintro e w' ⟨rfl, hb⟩)
        | (go_at_call 50; refine (HV _ (by assumption)).mono ?_; rintro e w' ⟨rfl, hb⟩))
      go_ret
      refine ⟨ret_bool (isw_of ?_), by assumption⟩
      rw [HI.out]
      have h0 := H0.out
      have h1 := H1.out
      simp
      try omega
    · have b1 : (v / 4096 % 8 != 3) = true := by simp [h1]
      have H1 := Lib.hid h1
      clear h1
      go_enter Tryd.func28, Tryd.ntmps28
      go_wp2_with (first
        | (go_at_call 19; refine (HS _ (by assumption)).mono ?_; rintro e w' ⟨rfl, hb⟩)
        | (go_at_call 9; refine (HO _ (by assumption)).mono ?_; rintro e w' ⟨rfl, hb⟩)
        | (go_at_call 11; refine (HF _ (by assumption)).mono ?_; rintro e w' ⟨rfl, hb⟩)
        | (go_at_call 49; refine (HT _ (by assumption)).mono ?_; rintro e w' ⟨rfl, hb⟩)
        | (go_at_call 31; refine (HH _ (by assumption)).mono ?_; rintro e w' ⟨rfl, hb⟩)
        | (go_at_call 50; refine (HV _ (by assumption)).mono ?_; rintro e w' ⟨rfl, hb⟩))
      go_ret
      refine ⟨ret_bool (isw_of ?_), by assumption⟩
      rw [HI.out]
      have h0 := H0.out
      have h1 := H1.out
      simp
      try omega
  · have b0 : (v % 128 != 47) = true := by simp [h0]
    have H0 := Lib.hid h0
    clear h0
    go_enter Tryd.func28, Tryd.ntmps28
    go_wp2_with (first
      | (go_at_call 19; refine (HS _ (by assumption)).mono ?_; rintro e w' ⟨rfl, hb⟩)
      | (go_at_call 9; refine (HO _ (by assumption)).mono ?_; rintro e w' ⟨rfl, hb⟩)
      | (go_at_call 11; refine (HF _ (by assumption)).mono ?_; rintro e w' ⟨rfl, hb⟩)
      | (go_at_call 49; refine (HT _ (by assumption)).mono ?_; rintro e w' ⟨rfl, hb⟩)
      | (go_at_call 31; refine (HH _ (by assumption)).mono ?_; rintro e w' ⟨rfl, hb⟩)
      | (go_at_call 50; refine (HV _ (by assumption)).mono ?_; rintro e w' ⟨rfl, hb⟩))
    go_ret
    refine ⟨ret_bool (isw_of ?_), by assumption⟩
    rw [HI.out]
    have h0 := H0.out
    simp
    try omega
set_option maxRecDepth 100000 in
theorem is_69 : IsAt 69 := by
  intro v w v0 v1
  have HS := fun w1 h => sort_bw w w1 h 69 (by decide) (by decide)
  have HO : ∀ w1, BW w w1 → _ := fun w1 h => (oc_69 w1).mono fun _ _ ⟨he, hb⟩ => And.intro he (BW.on h hb)
  have HF : ∀ w1, BW w w1 → _ := fun w1 h => (fc_69 w1).mono fun _ _ ⟨he, hb⟩ => And.intro he (BW.on h hb)
  have HT : ∀ w1, BW w w1 → _ := fun w1 h => (tu_69 w1).mono fun _ _ ⟨he, hb⟩ => And.intro he (BW.on h hb)
  have HH : ∀ w1, BW w w1 → _ := fun w1 h => (sh_69 w1).mono fun _ _ ⟨he, hb⟩ => And.intro he (BW.on h hb)
  have HV : ∀ w1, BW w w1 → _ := fun w1 h => (fv_69 w1).mono fun _ _ ⟨he, hb⟩ => And.intro he (BW.on h hb)
  have HB : BW w w := Below.refl _ _
  rw [show srt 69 = 12 by decide] at HS
  rw [show ocV 69 = 47 by decide] at HO
  rw [show f3V 69 = 3 by decide] at HF
  rw [show turB 69 = false by decide] at HT
  rw [show shV 69 = 0 by decide] at HH
  rw [show agV 69 = 4 by decide] at HV
  have HI : Hid (Isw v 69 ↔ v % 128 = 47 ∧ v / 4096 % 8 = 3 ∧ v / 134217728 = 4) := by
    show _ ↔ _
    unfold Isw
    rw [show ocV 69 = 47 by decide, show f3V 69 = 3 by decide, show agV 69 = 4 by decide, show kdV 69 = 5 by decide]
    simp
    try omega
  by_cases h0 : v % 128 = 47
  · have b0 : (v % 128 != 47) = false := by simp [h0]
    have H0 := Lib.hid h0
    clear h0
    by_cases h1 : v / 4096 % 8 = 3
    · have b1 : (v / 4096 % 8 != 3) = false := by simp [h1]
      have H1 := Lib.hid h1
      clear h1
      go_enter Tryd.func28, Tryd.ntmps28
      go_wp2_with (first
        | (go_at_call 19; refine (HS _ (by assumption)).mono ?_; rintro e w' ⟨rfl, hb⟩)
        | (go_at_call 9; refine (HO _ (by assumption)).mono ?_; rintro e w' ⟨rfl, hb⟩)
        | (go_at_call 11; refine (HF _ (by assumption)).mono ?_; rintro e w' ⟨rfl, hb⟩)
        | (go_at_call 49; refine (HT _ (by assumption)).mono ?_; rintro e w' ⟨rfl, hb⟩)
        | (go_at_call 31; refine (HH _ (by assumption)).mono ?_; rintro e w' ⟨rfl, hb⟩)
        | (go_at_call 50; refine (HV _ (by assumption)).mono ?_; rintro e w' ⟨rfl, hb⟩))
      go_ret
      refine ⟨ret_bool (isw_of ?_), by assumption⟩
      rw [HI.out]
      have h0 := H0.out
      have h1 := H1.out
      simp
      try omega
    · have b1 : (v / 4096 % 8 != 3) = true := by simp [h1]
      have H1 := Lib.hid h1
      clear h1
      go_enter Tryd.func28, Tryd.ntmps28
      go_wp2_with (first
        | (go_at_call 19; refine (HS _ (by assumption)).mono ?_; rintro e w' ⟨rfl, hb⟩)
        | (go_at_call 9; refine (HO _ (by assumption)).mono ?_; rintro e w' ⟨rfl, hb⟩)
        | (go_at_call 11; refine (HF _ (by assumption)).mono ?_; rintro e w' ⟨rfl, hb⟩)
        | (go_at_call 49; refine (HT _ (by assumption)).mono ?_; rintro e w' ⟨rfl, hb⟩)
        | (go_at_call 31; refine (HH _ (by assumption)).mono ?_; rintro e w' ⟨rfl, hb⟩)
        | (go_at_call 50; refine (HV _ (by assumption)).mono ?_; rintro e w' ⟨rfl, hb⟩))
      go_ret
      refine ⟨ret_bool (isw_of ?_), by assumption⟩
      rw [HI.out]
      have h0 := H0.out
      have h1 := H1.out
      simp
      try omega
  · have b0 : (v % 128 != 47) = true := by simp [h0]
    have H0 := Lib.hid h0
    clear h0
    go_enter Tryd.func28, Tryd.ntmps28
    go_wp2_with (first
      | (go_at_call 19; refine (HS _ (by assumption)).mono ?_; rintro e w' ⟨rfl, hb⟩)
      | (go_at_call 9; refine (HO _ (by assumption)).mono ?_; rintro e w' ⟨rfl, hb⟩)
      | (go_at_call 11; refine (HF _ (by assumption)).mono ?_; rintro e w' ⟨rfl, hb⟩)
      | (go_at_call 49; refine (HT _ (by assumption)).mono ?_; rintro e w' ⟨rfl, hb⟩)
      | (go_at_call 31; refine (HH _ (by assumption)).mono ?_; rintro e w' ⟨rfl, hb⟩)
      | (go_at_call 50; refine (HV _ (by assumption)).mono ?_; rintro e w' ⟨rfl, hb⟩))
    go_ret
    refine ⟨ret_bool (isw_of ?_), by assumption⟩
    rw [HI.out]
    have h0 := H0.out
    simp
    try omega
set_option maxRecDepth 100000 in
theorem is_70 : IsAt 70 := by
  intro v w v0 v1
  have HS := fun w1 h => sort_bw w w1 h 70 (by decide) (by decide)
  have HO : ∀ w1, BW w w1 → _ := fun w1 h => (oc_70 w1).mono fun _ _ ⟨he, hb⟩ => And.intro he (BW.on h hb)
  have HF : ∀ w1, BW w w1 → _ := fun w1 h => (fc_70 w1).mono fun _ _ ⟨he, hb⟩ => And.intro he (BW.on h hb)
  have HT : ∀ w1, BW w w1 → _ := fun w1 h => (tu_70 w1).mono fun _ _ ⟨he, hb⟩ => And.intro he (BW.on h hb)
  have HH : ∀ w1, BW w w1 → _ := fun w1 h => (sh_70 w1).mono fun _ _ ⟨he, hb⟩ => And.intro he (BW.on h hb)
  have HV : ∀ w1, BW w w1 → _ := fun w1 h => (fv_70 w1).mono fun _ _ ⟨he, hb⟩ => And.intro he (BW.on h hb)
  have HB : BW w w := Below.refl _ _
  rw [show srt 70 = 12 by decide] at HS
  rw [show ocV 70 = 47 by decide] at HO
  rw [show f3V 70 = 3 by decide] at HF
  rw [show turB 70 = false by decide] at HT
  rw [show shV 70 = 0 by decide] at HH
  rw [show agV 70 = 12 by decide] at HV
  have HI : Hid (Isw v 70 ↔ v % 128 = 47 ∧ v / 4096 % 8 = 3 ∧ v / 134217728 = 12) := by
    show _ ↔ _
    unfold Isw
    rw [show ocV 70 = 47 by decide, show f3V 70 = 3 by decide, show agV 70 = 12 by decide, show kdV 70 = 5 by decide]
    simp
    try omega
  by_cases h0 : v % 128 = 47
  · have b0 : (v % 128 != 47) = false := by simp [h0]
    have H0 := Lib.hid h0
    clear h0
    by_cases h1 : v / 4096 % 8 = 3
    · have b1 : (v / 4096 % 8 != 3) = false := by simp [h1]
      have H1 := Lib.hid h1
      clear h1
      go_enter Tryd.func28, Tryd.ntmps28
      go_wp2_with (first
        | (go_at_call 19; refine (HS _ (by assumption)).mono ?_; rintro e w' ⟨rfl, hb⟩)
        | (go_at_call 9; refine (HO _ (by assumption)).mono ?_; rintro e w' ⟨rfl, hb⟩)
        | (go_at_call 11; refine (HF _ (by assumption)).mono ?_; rintro e w' ⟨rfl, hb⟩)
        | (go_at_call 49; refine (HT _ (by assumption)).mono ?_; rintro e w' ⟨rfl, hb⟩)
        | (go_at_call 31; refine (HH _ (by assumption)).mono ?_; rintro e w' ⟨rfl, hb⟩)
        | (go_at_call 50; refine (HV _ (by assumption)).mono ?_; rintro e w' ⟨rfl, hb⟩))
      go_ret
      refine ⟨ret_bool (isw_of ?_), by assumption⟩
      rw [HI.out]
      have h0 := H0.out
      have h1 := H1.out
      simp
      try omega
    · have b1 : (v / 4096 % 8 != 3) = true := by simp [h1]
      have H1 := Lib.hid h1
      clear h1
      go_enter Tryd.func28, Tryd.ntmps28
      go_wp2_with (first
        | (go_at_call 19; refine (HS _ (by assumption)).mono ?_; rintro e w' ⟨rfl, hb⟩)
        | (go_at_call 9; refine (HO _ (by assumption)).mono ?_; rintro e w' ⟨rfl, hb⟩)
        | (go_at_call 11; refine (HF _ (by assumption)).mono ?_; rintro e w' ⟨rfl, hb⟩)
        | (go_at_call 49; refine (HT _ (by assumption)).mono ?_; rintro e w' ⟨rfl, hb⟩)
        | (go_at_call 31; refine (HH _ (by assumption)).mono ?_; rintro e w' ⟨rfl, hb⟩)
        | (go_at_call 50; refine (HV _ (by assumption)).mono ?_; rintro e w' ⟨rfl, hb⟩))
      go_ret
      refine ⟨ret_bool (isw_of ?_), by assumption⟩
      rw [HI.out]
      have h0 := H0.out
      have h1 := H1.out
      simp
      try omega
  · have b0 : (v % 128 != 47) = true := by simp [h0]
    have H0 := Lib.hid h0
    clear h0
    go_enter Tryd.func28, Tryd.ntmps28
    go_wp2_with (first
      | (go_at_call 19; refine (HS _ (by assumption)).mono ?_; rintro e w' ⟨rfl, hb⟩)
      | (go_at_call 9; refine (HO _ (by assumption)).mono ?_; rintro e w' ⟨rfl, hb⟩)
      | (go_at_call 11; refine (HF _ (by assumption)).mono ?_; rintro e w' ⟨rfl, hb⟩)
      | (go_at_call 49; refine (HT _ (by assumption)).mono ?_; rintro e w' ⟨rfl, hb⟩)
      | (go_at_call 31; refine (HH _ (by assumption)).mono ?_; rintro e w' ⟨rfl, hb⟩)
      | (go_at_call 50; refine (HV _ (by assumption)).mono ?_; rintro e w' ⟨rfl, hb⟩))
    go_ret
    refine ⟨ret_bool (isw_of ?_), by assumption⟩
    rw [HI.out]
    have h0 := H0.out
    simp
    try omega
set_option maxRecDepth 100000 in
theorem is_71 : IsAt 71 := by
  intro v w v0 v1
  have HS := fun w1 h => sort_bw w w1 h 71 (by decide) (by decide)
  have HO : ∀ w1, BW w w1 → _ := fun w1 h => (oc_71 w1).mono fun _ _ ⟨he, hb⟩ => And.intro he (BW.on h hb)
  have HF : ∀ w1, BW w w1 → _ := fun w1 h => (fc_71 w1).mono fun _ _ ⟨he, hb⟩ => And.intro he (BW.on h hb)
  have HT : ∀ w1, BW w w1 → _ := fun w1 h => (tu_71 w1).mono fun _ _ ⟨he, hb⟩ => And.intro he (BW.on h hb)
  have HH : ∀ w1, BW w w1 → _ := fun w1 h => (sh_71 w1).mono fun _ _ ⟨he, hb⟩ => And.intro he (BW.on h hb)
  have HV : ∀ w1, BW w w1 → _ := fun w1 h => (fv_71 w1).mono fun _ _ ⟨he, hb⟩ => And.intro he (BW.on h hb)
  have HB : BW w w := Below.refl _ _
  rw [show srt 71 = 12 by decide] at HS
  rw [show ocV 71 = 47 by decide] at HO
  rw [show f3V 71 = 3 by decide] at HF
  rw [show turB 71 = false by decide] at HT
  rw [show shV 71 = 0 by decide] at HH
  rw [show agV 71 = 8 by decide] at HV
  have HI : Hid (Isw v 71 ↔ v % 128 = 47 ∧ v / 4096 % 8 = 3 ∧ v / 134217728 = 8) := by
    show _ ↔ _
    unfold Isw
    rw [show ocV 71 = 47 by decide, show f3V 71 = 3 by decide, show agV 71 = 8 by decide, show kdV 71 = 5 by decide]
    simp
    try omega
  by_cases h0 : v % 128 = 47
  · have b0 : (v % 128 != 47) = false := by simp [h0]
    have H0 := Lib.hid h0
    clear h0
    by_cases h1 : v / 4096 % 8 = 3
    · have b1 : (v / 4096 % 8 != 3) = false := by simp [h1]
      have H1 := Lib.hid h1
      clear h1
      go_enter Tryd.func28, Tryd.ntmps28
      go_wp2_with (first
        | (go_at_call 19; refine (HS _ (by assumption)).mono ?_; rintro e w' ⟨rfl, hb⟩)
        | (go_at_call 9; refine (HO _ (by assumption)).mono ?_; rintro e w' ⟨rfl, hb⟩)
        | (go_at_call 11; refine (HF _ (by assumption)).mono ?_; rintro e w' ⟨rfl, hb⟩)
        | (go_at_call 49; refine (HT _ (by assumption)).mono ?_; rintro e w' ⟨rfl, hb⟩)
        | (go_at_call 31; refine (HH _ (by assumption)).mono ?_; rintro e w' ⟨rfl, hb⟩)
        | (go_at_call 50; refine (HV _ (by assumption)).mono ?_; rintro e w' ⟨rfl, hb⟩))
      go_ret
      refine ⟨ret_bool (isw_of ?_), by assumption⟩
      rw [HI.out]
      have h0 := H0.out
      have h1 := H1.out
      simp
      try omega
    · have b1 : (v / 4096 % 8 != 3) = true := by simp [h1]
      have H1 := Lib.hid h1
      clear h1
      go_enter Tryd.func28, Tryd.ntmps28
      go_wp2_with (first
        | (go_at_call 19; refine (HS _ (by assumption)).mono ?_; rintro e w' ⟨rfl, hb⟩)
        | (go_at_call 9; refine (HO _ (by assumption)).mono ?_; rintro e w' ⟨rfl, hb⟩)
        | (go_at_call 11; refine (HF _ (by assumption)).mono ?_; rintro e w' ⟨rfl, hb⟩)
        | (go_at_call 49; refine (HT _ (by assumption)).mono ?_; rintro e w' ⟨rfl, hb⟩)
        | (go_at_call 31; refine (HH _ (by assumption)).mono ?_; rintro e w' ⟨rfl, hb⟩)
        | (go_at_call 50; refine (HV _ (by assumption)).mono ?_; rintro e w' ⟨rfl, hb⟩))
      go_ret
      refine ⟨ret_bool (isw_of ?_), by assumption⟩
      rw [HI.out]
      have h0 := H0.out
      have h1 := H1.out
      simp
      try omega
  · have b0 : (v % 128 != 47) = true := by simp [h0]
    have H0 := Lib.hid h0
    clear h0
    go_enter Tryd.func28, Tryd.ntmps28
    go_wp2_with (first
      | (go_at_call 19; refine (HS _ (by assumption)).mono ?_; rintro e w' ⟨rfl, hb⟩)
      | (go_at_call 9; refine (HO _ (by assumption)).mono ?_; rintro e w' ⟨rfl, hb⟩)
      | (go_at_call 11; refine (HF _ (by assumption)).mono ?_; rintro e w' ⟨rfl, hb⟩)
      | (go_at_call 49; refine (HT _ (by assumption)).mono ?_; rintro e w' ⟨rfl, hb⟩)
      | (go_at_call 31; refine (HH _ (by assumption)).mono ?_; rintro e w' ⟨rfl, hb⟩)
      | (go_at_call 50; refine (HV _ (by assumption)).mono ?_; rintro e w' ⟨rfl, hb⟩))
    go_ret
    refine ⟨ret_bool (isw_of ?_), by assumption⟩
    rw [HI.out]
    have h0 := H0.out
    simp
    try omega
set_option maxRecDepth 100000 in
theorem is_72 : IsAt 72 := by
  intro v w v0 v1
  have HS := fun w1 h => sort_bw w w1 h 72 (by decide) (by decide)
  have HO : ∀ w1, BW w w1 → _ := fun w1 h => (oc_72 w1).mono fun _ _ ⟨he, hb⟩ => And.intro he (BW.on h hb)
  have HF : ∀ w1, BW w w1 → _ := fun w1 h => (fc_72 w1).mono fun _ _ ⟨he, hb⟩ => And.intro he (BW.on h hb)
  have HT : ∀ w1, BW w w1 → _ := fun w1 h => (tu_72 w1).mono fun _ _ ⟨he, hb⟩ => And.intro he (BW.on h hb)
  have HH : ∀ w1, BW w w1 → _ := fun w1 h => (sh_72 w1).mono fun _ _ ⟨he, hb⟩ => And.intro he (BW.on h hb)
  have HV : ∀ w1, BW w w1 → _ := fun w1 h => (fv_72 w1).mono fun _ _ ⟨he, hb⟩ => And.intro he (BW.on h hb)
  have HB : BW w w := Below.refl _ _
  rw [show srt 72 = 12 by decide] at HS
  rw [show ocV 72 = 47 by decide] at HO
  rw [show f3V 72 = 3 by decide] at HF
  rw [show turB 72 = false by decide] at HT
  rw [show shV 72 = 0 by decide] at HH
  rw [show agV 72 = 16 by decide] at HV
  have HI : Hid (Isw v 72 ↔ v % 128 = 47 ∧ v / 4096 % 8 = 3 ∧ v / 134217728 = 16) := by
    show _ ↔ _
    unfold Isw
    rw [show ocV 72 = 47 by decide, show f3V 72 = 3 by decide, show agV 72 = 16 by decide, show kdV 72 = 5 by decide]
    simp
    try omega
  by_cases h0 : v % 128 = 47
  · have b0 : (v % 128 != 47) = false := by simp [h0]
    have H0 := Lib.hid h0
    clear h0
    by_cases h1 : v / 4096 % 8 = 3
    · have b1 : (v / 4096 % 8 != 3) = false := by simp [h1]
      have H1 := Lib.hid h1
      clear h1
      go_enter Tryd.func28, Tryd.ntmps28
      go_wp2_with (first
        | (go_at_call 19; refine (HS _ (by assumption)).mono ?_; rintro e w' ⟨rfl, hb⟩)
        | (go_at_call 9; refine (HO _ (by assumption)).mono ?_; rintro e w' ⟨rfl, hb⟩)
        | (go_at_call 11; refine (HF _ (by assumption)).mono ?_; rintro e w' ⟨rfl, hb⟩)
        | (go_at_call 49; refine (HT _ (by assumption)).mono ?_; rintro e w' ⟨rfl, hb⟩)
        | (go_at_call 31; refine (HH _ (by assumption)).mono ?_; rintro e w' ⟨rfl, hb⟩)
        | (go_at_call 50; refine (HV _ (by assumption)).mono ?_; rintro e w' ⟨rfl, hb⟩))
      go_ret
      refine ⟨ret_bool (isw_of ?_), by assumption⟩
      rw [HI.out]
      have h0 := H0.out
      have h1 := H1.out
      simp
      try omega
    · have b1 : (v / 4096 % 8 != 3) = true := by simp [h1]
      have H1 := Lib.hid h1
      clear h1
      go_enter Tryd.func28, Tryd.ntmps28
      go_wp2_with (first
        | (go_at_call 19; refine (HS _ (by assumption)).mono ?_; rintro e w' ⟨rfl, hb⟩)
        | (go_at_call 9; refine (HO _ (by assumption)).mono ?_; rintro e w' ⟨rfl, hb⟩)
        | (go_at_call 11; refine (HF _ (by assumption)).mono ?_; rintro e w' ⟨rfl, hb⟩)
        | (go_at_call 49; refine (HT _ (by assumption)).mono ?_; rintro e w' ⟨rfl, hb⟩)
        | (go_at_call 31; refine (HH _ (by assumption)).mono ?_; rintro e w' ⟨rfl, hb⟩)
        | (go_at_call 50; refine (HV _ (by assumption)).mono ?_; rintro e w' ⟨rfl, hb⟩))
      go_ret
      refine ⟨ret_bool (isw_of ?_), by assumption⟩
      rw [HI.out]
      have h0 := H0.out
      have h1 := H1.out
      simp
      try omega
  · have b0 : (v % 128 != 47) = true := by simp [h0]
    have H0 := Lib.hid h0
    clear h0
    go_enter Tryd.func28, Tryd.ntmps28
    go_wp2_with (first
      | (go_at_call 19; refine (HS _ (by assumption)).mono ?_; rintro e w' ⟨rfl, hb⟩)
      | (go_at_call 9; refine (HO _ (by assumption)).mono ?_; rintro e w' ⟨rfl, hb⟩)
      | (go_at_call 11; refine (HF _ (by assumption)).mono ?_; rintro e w' ⟨rfl, hb⟩)
      | (go_at_call 49; refine (HT _ (by assumption)).mono ?_; rintro e w' ⟨rfl, hb⟩)
      | (go_at_call 31; refine (HH _ (by assumption)).mono ?_; rintro e w' ⟨rfl, hb⟩)
      | (go_at_call 50; refine (HV _ (by assumption)).mono ?_; rintro e w' ⟨rfl, hb⟩))
    go_ret
    refine ⟨ret_bool (isw_of ?_), by assumption⟩
    rw [HI.out]
    have h0 := H0.out
    simp
    try omega
set_option maxRecDepth 100000 in
theorem is_73 : IsAt 73 := by
  intro v w v0 v1
  have HS := fun w1 h => sort_bw w w1 h 73 (by decide) (by decide)
  have HO : ∀ w1, BW w w1 → _ := fun w1 h => (oc_73 w1).mono fun _ _ ⟨he, hb⟩ => And.intro he (BW.on h hb)
  have HF : ∀ w1, BW w w1 → _ := fun w1 h => (fc_73 w1).mono fun _ _ ⟨he, hb⟩ => And.intro he (BW.on h hb)
  have HT : ∀ w1, BW w w1 → _ := fun w1 h => (tu_73 w1).mono fun _ _ ⟨he, hb⟩ => And.intro he (BW.on h hb)
  have HH : ∀ w1, BW w w1 → _ := fun w1 h => (sh_73 w1).mono fun _ _ ⟨he, hb⟩ => And.intro he (BW.on h hb)
  have HV : ∀ w1, BW w w1 → _ := fun w1 h => (fv_73 w1).mono fun _ _ ⟨he, hb⟩ => And.intro he (BW.on h hb)
  have HB : BW w w := Below.refl _ _
  rw [show srt 73 = 12 by decide] at HS
  rw [show ocV 73 = 47 by decide] at HO
  rw [show f3V 73 = 3 by decide] at HF
  rw [show turB 73 = false by decide] at HT
  rw [show shV 73 = 0 by decide] at HH
  rw [show agV 73 = 20 by decide] at HV
  have HI : Hid (Isw v 73 ↔ v % 128 = 47 ∧ v / 4096 % 8 = 3 ∧ v / 134217728 = 20) := by
    show _ ↔ _
    unfold Isw
    rw [show ocV 73 = 47 by decide, show f3V 73 = 3 by decide, show agV 73 = 20 by decide, show kdV 73 = 5 by decide]
    simp
    try omega
  by_cases h0 : v % 128 = 47
  · have b0 : (v % 128 != 47) = false := by simp [h0]
    have H0 := Lib.hid h0
    clear h0
    by_cases h1 : v / 4096 % 8 = 3
    · have b1 : (v / 4096 % 8 != 3) = false := by simp [h1]
      have H1 := Lib.hid h1
      clear h1
      go_enter Tryd.func28, Tryd.ntmps28
      go_wp2_with (first
        | (go_at_call 19; refine (HS _ (by assumption)).mono ?_; rintro e w' ⟨rfl, hb⟩)
        | (go_at_call 9; refine (HO _ (by assumption)).mono ?_; rintro e w' ⟨rfl, hb⟩)
        | (go_at_call 11; refine (HF _ (by assumption)).mono ?_; rintro e w' ⟨rfl, hb⟩)
        | (go_at_call 49; refine (HT _ (by assumption)).mono ?_; rintro e w' ⟨rfl, hb⟩)
        | (go_at_call 31; refine (HH _ (by assumption)).mono ?_; rintro e w' ⟨rfl, hb⟩)
        | (go_at_call 50; refine (HV _ (by assumption)).mono ?_; rintro e w' ⟨rfl, hb⟩))
      go_ret
      refine ⟨ret_bool (isw_of ?_), by assumption⟩
      rw [HI.out]
      have h0 := H0.out
      have h1 := H1.out
      simp
      try omega
    · have b1 : (v / 4096 % 8 != 3) = true := by simp [h1]
      have H1 := Lib.hid h1
      clear h1
      go_enter Tryd.func28, Tryd.ntmps28
      go_wp2_with (first
        | (go_at_call 19; refine (HS _ (by assumption)).mono ?_; rintro e w' ⟨rfl, hb⟩)
        | (go_at_call 9; refine (HO _ (by assumption)).mono ?_; rintro e w' ⟨rfl, hb⟩)
        | (go_at_call 11; refine (HF _ (by assumption)).mono ?_; rintro e w' ⟨rfl, hb⟩)
        | (go_at_call 49; refine (HT _ (by assumption)).mono ?_; rintro e w' ⟨rfl, hb⟩)
        | (go_at_call 31; refine (HH _ (by assumption)).mono ?_; rintro e w' ⟨rfl, hb⟩)
        | (go_at_call 50; refine (HV _ (by assumption)).mono ?_; rintro e w' ⟨rfl, hb⟩))
      go_ret
      refine ⟨ret_bool (isw_of ?_), by assumption⟩
      rw [HI.out]
      have h0 := H0.out
      have h1 := H1.out
      simp
      try omega
  · have b0 : (v % 128 != 47) = true := by simp [h0]
    have H0 := Lib.hid h0
    clear h0
    go_enter Tryd.func28, Tryd.ntmps28
    go_wp2_with (first
      | (go_at_call 19; refine (HS _ (by assumption)).mono ?_; rintro e w' ⟨rfl, hb⟩)
      | (go_at_call 9; refine (HO _ (by assumption)).mono ?_; rintro e w' ⟨rfl, hb⟩)
      | (go_at_call 11; refine (HF _ (by assumption)).mono ?_; rintro e w' ⟨rfl, hb⟩)
      | (go_at_call 49; refine (HT _ (by assumption)).mono ?_; rintro e w' ⟨rfl, hb⟩)
      | (go_at_call 31; refine (HH _ (by assumption)).mono ?_; rintro e w' ⟨rfl, hb⟩)
      | (go_at_call 50; refine (HV _ (by assumption)).mono ?_; rintro e w' ⟨rfl, hb⟩))
    go_ret
    refine ⟨ret_bool (isw_of ?_), by assumption⟩
    rw [HI.out]
    have h0 := H0.out
    simp
    try omega
set_option maxRecDepth 100000 in
theorem is_74 : IsAt 74 := by
  intro v w v0 v1
  have HS := fun w1 h => sort_bw w w1 h 74 (by decide) (by decide)
  have HO : ∀ w1, BW w w1 → _ := fun w1 h => (oc_74 w1).mono fun _ _ ⟨he, hb⟩ => And.intro he (BW.on h hb)
  have HF : ∀ w1, BW w w1 → _ := fun w1 h => (fc_74 w1).mono fun _ _ ⟨he, hb⟩ => And.intro he (BW.on h hb)
  have HT : ∀ w1, BW w w1 → _ := fun w1 h => (tu_74 w1).mono fun _ _ ⟨he, hb⟩ => And.intro he (BW.on h hb)
  have HH : ∀ w1, BW w w1 → _ := fun w1 h => (sh_74 w1).mono fun _ _ ⟨he, hb⟩ => And.intro he (BW.on h hb)
  have HV : ∀ w1, BW w w1 → _ := fun w1 h => (fv_74 w1).mono fun _ _ ⟨he, hb⟩ => And.intro he (BW.on h hb)
  have HB : BW w w := Below.refl _ _
  rw [show srt 74 = 12 by decide] at HS
  rw [show ocV 74 = 47 by decide] at HO
  rw [show f3V 74 = 3 by decide] at HF
  rw [show turB 74 = false by decide] at HT
  rw [show shV 74 = 0 by decide] at HH
  rw [show agV 74 = 24 by decide] at HV
  have HI : Hid (Isw v 74 ↔ v % 128 = 47 ∧ v / 4096 % 8 = 3 ∧ v / 134217728 = 24) := by
    show _ ↔ _
    unfold Isw
    rw [show ocV 74 = 47 by decide, show f3V 74 = 3 by decide, show agV 74 = 24 by decide, show kdV 74 = 5 by decide]
    simp
    try omega
  by_cases h0 : v % 128 = 47
  · have b0 : (v % 128 != 47) = false := by simp [h0]
    have H0 := Lib.hid h0
    clear h0
    by_cases h1 : v / 4096 % 8 = 3
    · have b1 : (v / 4096 % 8 != 3) = false := by simp [h1]
      have H1 := Lib.hid h1
      clear h1
      go_enter Tryd.func28, Tryd.ntmps28
      go_wp2_with (first
        | (go_at_call 19; refine (HS _ (by assumption)).mono ?_; rintro e w' ⟨rfl, hb⟩)
        | (go_at_call 9; refine (HO _ (by assumption)).mono ?_; rintro e w' ⟨rfl, hb⟩)
        | (go_at_call 11; refine (HF _ (by assumption)).mono ?_; rintro e w' ⟨rfl, hb⟩)
        | (go_at_call 49; refine (HT _ (by assumption)).mono ?_; rintro e w' ⟨rfl, hb⟩)
        | (go_at_call 31; refine (HH _ (by assumption)).mono ?_; rintro e w' ⟨rfl, hb⟩)
        | (go_at_call 50; refine (HV _ (by assumption)).mono ?_; rintro e w' ⟨rfl, hb⟩))
      go_ret
      refine ⟨ret_bool (isw_of ?_), by assumption⟩
      rw [HI.out]
      have h0 := H0.out
      have h1 := H1.out
      simp
      try omega
    · have b1 : (v / 4096 % 8 != 3) = true := by simp [h1]
      have H1 := Lib.hid h1
      clear h1
      go_enter Tryd.func28, Tryd.ntmps28
      go_wp2_with (first
        | (go_at_call 19; refine (HS _ (by assumption)).mono ?_; rintro e w' ⟨rfl, hb⟩)
        | (go_at_call 9; refine (HO _ (by assumption)).mono ?_; rintro e w' ⟨rfl, hb⟩)
        | (go_at_call 11; refine (HF _ (by assumption)).mono ?_; rintro e w' ⟨rfl, hb⟩)
        | (go_at_call 49; refine (HT _ (by assumption)).mono ?_; rintro e w' ⟨rfl, hb⟩)
        | (go_at_call 31; refine (HH _ (by assumption)).mono ?_; rintro e w' ⟨rfl, hb⟩)
        | (go_at_call 50; refine (HV _ (by assumption)).mono ?_; rintro e w' ⟨rfl, hb⟩))
      go_ret
      refine ⟨ret_bool (isw_of ?_), by assumption⟩
      rw [HI.out]
      have h0 := H0.out
      have h1 := H1.out
      simp
      try omega
  · have b0 : (v % 128 != 47) = true := by simp [h0]
    have H0 := Lib.hid h0
    clear h0
    go_enter Tryd.func28, Tryd.ntmps28
    go_wp2_with (first
      | (go_at_call 19; refine (HS _ (by assumption)).mono ?_; rintro e w' ⟨rfl, hb⟩)
      | (go_at_call 9; refine (HO _ (by assumption)).mono ?_; rintro e w' ⟨rfl, hb⟩)
      | (go_at_call 11; refine (HF _ (by assumption)).mono ?_; rintro e w' ⟨rfl, hb⟩)
      | (go_at_call 49; refine (HT _ (by assumption)).mono ?_; rintro e w' ⟨rfl, hb⟩)
      | (go_at_call 31; refine (HH _ (by assumption)).mono ?_; rintro e w' ⟨rfl, hb⟩)
      | (go_at_call 50; refine (HV _ (by assumption)).mono ?_; rintro e w' ⟨rfl, hb⟩))
    go_ret
    refine ⟨ret_bool (isw_of ?_), by assumption⟩
    rw [HI.out]
    have h0 := H0.out
    simp
    try omega
set_option maxRecDepth 100000 in
theorem is_75 : IsAt 75 := by
  intro v w v0 v1
  have HS := fun w1 h => sort_bw w w1 h 75 (by decide) (by decide)
  have HO : ∀ w1, BW w w1 → _ := fun w1 h => (oc_75 w1).mono fun _ _ ⟨he, hb⟩ => And.intro he (BW.on h hb)
  have HF : ∀ w1, BW w w1 → _ := fun w1 h => (fc_75 w1).mono fun _ _ ⟨he, hb⟩ => And.intro he (BW.on h hb)
  have HT : ∀ w1, BW w w1 → _ := fun w1 h => (tu_75 w1).mono fun _ _ ⟨he, hb⟩ => And.intro he (BW.on h hb)
  have HH : ∀ w1, BW w w1 → _ := fun w1 h => (sh_75 w1).mono fun _ _ ⟨he, hb⟩ => And.intro he (BW.on h hb)
  have HV : ∀ w1, BW w w1 → _ := fun w1 h => (fv_75 w1).mono fun _ _ ⟨he, hb⟩ => And.intro he (BW.on h hb)
  have HB : BW w w := Below.refl _ _
  rw [show srt 75 = 12 by decide] at HS
  rw [show ocV 75 = 47 by decide] at HO
  rw [show f3V 75 = 3 by decide] at HF
  rw [show turB 75 = false by decide] at HT
  rw [show shV 75 = 0 by decide] at HH
  rw [show agV 75 = 28 by decide] at HV
  have HI : Hid (Isw v 75 ↔ v % 128 = 47 ∧ v / 4096 % 8 = 3 ∧ v / 134217728 = 28) := by
    show _ ↔ _
    unfold Isw
    rw [show ocV 75 = 47 by decide, show f3V 75 = 3 by decide, show agV 75 = 28 by decide, show kdV 75 = 5 by decide]
    simp
    try omega
  by_cases h0 : v % 128 = 47
  · have b0 : (v % 128 != 47) = false := by simp [h0]
    have H0 := Lib.hid h0
    clear h0
    by_cases h1 : v / 4096 % 8 = 3
    · have b1 : (v / 4096 % 8 != 3) = false := by simp [h1]
      have H1 := Lib.hid h1
      clear h1
      go_enter Tryd.func28, Tryd.ntmps28
      go_wp2_with (first
        | (go_at_call 19; refine (HS _ (by assumption)).mono ?_; rintro e w' ⟨rfl, hb⟩)
        | (go_at_call 9; refine (HO _ (by assumption)).mono ?_; rintro e w' ⟨rfl, hb⟩)
        | (go_at_call 11; refine (HF _ (by assumption)).mono ?_; rintro e w' ⟨rfl, hb⟩)
        | (go_at_call 49; refine (HT _ (by assumption)).mono ?_; rintro e w' ⟨rfl, hb⟩)
        | (go_at_call 31; refine (HH _ (by assumption)).mono ?_; rintro e w' ⟨rfl, hb⟩)
        | (go_at_call 50; refine (HV _ (by assumption)).mono ?_; rintro e w' ⟨rfl, hb⟩))
      go_ret
      refine ⟨ret_bool (isw_of ?_), by assumption⟩
      rw [HI.out]
      have h0 := H0.out
      have h1 := H1.out
      simp
      try omega
    · have b1 : (v / 4096 % 8 != 3) = true := by simp [h1]
      have H1 := Lib.hid h1
      clear h1
      go_enter Tryd.func28, Tryd.ntmps28
      go_wp2_with (first
        | (go_at_call 19; refine (HS _ (by assumption)).mono ?_; rintro e w' ⟨rfl, hb⟩)
        | (go_at_call 9; refine (HO _ (by assumption)).mono ?_; rintro e w' ⟨rfl, hb⟩)
        | (go_at_call 11; refine (HF _ (by assumption)).mono ?_; rintro e w' ⟨rfl, hb⟩)
        | (go_at_call 49; refine (HT _ (by assumption)).mono ?_; rintro e w' ⟨rfl, hb⟩)
        | (go_at_call 31; refine (HH _ (by assumption)).mono ?_; rintro e w' ⟨rfl, hb⟩)
        | (go_at_call 50; refine (HV _ (by assumption)).mono ?_; rintro e w' ⟨rfl, hb⟩))
      go_ret
      refine ⟨ret_bool (isw_of ?_), by assumption⟩
      rw [HI.out]
      have h0 := H0.out
      have h1 := H1.out
      simp
      try omega
  · have b0 : (v % 128 != 47) = true := by simp [h0]
    have H0 := Lib.hid h0
    clear h0
    go_enter Tryd.func28, Tryd.ntmps28
    go_wp2_with (first
      | (go_at_call 19; refine (HS _ (by assumption)).mono ?_; rintro e w' ⟨rfl, hb⟩)
      | (go_at_call 9; refine (HO _ (by assumption)).mono ?_; rintro e w' ⟨rfl, hb⟩)
      | (go_at_call 11; refine (HF _ (by assumption)).mono ?_; rintro e w' ⟨rfl, hb⟩)
      | (go_at_call 49; refine (HT _ (by assumption)).mono ?_; rintro e w' ⟨rfl, hb⟩)
      | (go_at_call 31; refine (HH _ (by assumption)).mono ?_; rintro e w' ⟨rfl, hb⟩)
      | (go_at_call 50; refine (HV _ (by assumption)).mono ?_; rintro e w' ⟨rfl, hb⟩))
    go_ret
    refine ⟨ret_bool (isw_of ?_), by assumption⟩
    rw [HI.out]
    have h0 := H0.out
    simp
    try omega
end Go.Proofs.YtbnacdhhacafkaaDoor
