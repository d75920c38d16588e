/- Of stage 11. -/
import Derived.Test.YtoeekibcelaloaaGreatDoorAalp
set_option linter.unusedVariables false
set_option maxRecDepth 100000
namespace Go.Proofs.YtoeekibcelaloaaGreatDoor
open Go.RowKit
theorem zR5 {op ad len n : Int} (hn : siz op = n) (h0 : n ≠ 0) : whrV op ad len = if ad % n ≠ 0 then 4 else if len < ad + n then 3 else 0 := by
  unfold whrV
  rw [hn, if_neg h0]
set_option maxHeartbeats 1000000 in
theorem rwhere_c (op ad len : Int) (ho : I64 op) (ha : U64 ad) (hl : 0 ≤ len ∧ len ≤ 1024) (w : World) :
    Calls Tryz.prog 25 #[.int .i64 op, .int .u64 ad, .int .i64 len] w fun e w' => e = .returned (.int .i64 (whrV op ad len)) ∧ Below w.heap.size w w' := by
  have KZ := fun x => zh3 op ho.1 ho.2 x
  obtain ⟨ha0, ha1⟩ := ha
  obtain ⟨hl0, hl1⟩ := hl
  rcases zo7 op with hs | hs | hs | hs | hs
  · have HV : Hid (whrV op ad len = 0) := by show _ = _; unfold whrV; rw [if_pos hs]
    rw [hs] at KZ
    clear hs
    generalize whrV op ad len = r at *
    go_enter Tryz.func25, Tryz.ntmps25
    go_wp2_with (first | (go_at_call 23; refine (KZ _).mono ?_; rintro e w2 ⟨rfl, hb⟩))
    go_ret
    exact ⟨za1 HV.out.symm, hb⟩
  · have hw := zR5 (ad := ad) (len := len) hs (by decide)
    rw [hs] at KZ
    clear hs
    generalize whrV op ad len = r at *
    by_cases h4 : ad / 1 * 1 = ad
    · have h4b : (ad / 1 * 1 == ad) = true := by rw [h4]; exact beq_self_eq_true ad
      by_cases h3 : len < 1
      · have HV : Hid (r = 3) := by show _ = _; rw [hw, if_neg (by omega), if_pos (by omega)]
        clear hw
        go_enter Tryz.func25, Tryz.ntmps25
        go_wp2_with (first | (go_at_call 23; refine (KZ _).mono ?_; rintro e w2 ⟨rfl, hb⟩))
        go_ret
        exact ⟨za1 HV.out.symm, hb⟩
      · by_cases h9 : 9000000000000000000 < ad
        · have HV : Hid (r = 3) := by show _ = _; rw [hw, if_neg (by omega), if_pos (by omega)]
          clear hw
          go_enter Tryz.func25, Tryz.ntmps25
          go_wp2_with (first | (go_at_call 23; refine (KZ _).mono ?_; rintro e w2 ⟨rfl, hb⟩))
          go_ret
          exact ⟨za1 HV.out.symm, hb⟩
        · by_cases hx : len - 1 < ad
          · have HV : Hid (r = 3) := by show _ = _; rw [hw, if_neg (by omega), if_pos (by omega)]
            clear hw
            go_enter Tryz.func25, Tryz.ntmps25
            go_wp2_with (first | (go_at_call 23; refine (KZ _).mono ?_; rintro e w2 ⟨rfl, hb⟩))
            go_ret
            exact ⟨za1 HV.out.symm, hb⟩
          · have HV : Hid (r = 0) := by show _ = _; rw [hw, if_neg (by omega), if_neg (by omega)]
            clear hw
            go_enter Tryz.func25, Tryz.ntmps25
            go_wp2_with (first | (go_at_call 23; refine (KZ _).mono ?_; rintro e w2 ⟨rfl, hb⟩))
            go_ret
            exact ⟨za1 HV.out.symm, hb⟩
    · exact absurd (by omega) h4
  · have hw := zR5 (ad := ad) (len := len) hs (by decide)
    rw [hs] at KZ
    clear hs
    generalize whrV op ad len = r at *
    by_cases h4 : ad / 2 * 2 = ad
    · have h4b : (ad / 2 * 2 == ad) = true := by rw [h4]; exact beq_self_eq_true ad
      by_cases h3 : len < 2
      · have HV : Hid (r = 3) := by show _ = _; rw [hw, if_neg (by omega), if_pos (by omega)]
        clear hw
        go_enter Tryz.func25, Tryz.ntmps25
        go_wp2_with (first | (go_at_call 23; refine (KZ _).mono ?_; rintro e w2 ⟨rfl, hb⟩))
        go_ret
        exact ⟨za1 HV.out.symm, hb⟩
      · by_cases h9 : 9000000000000000000 < ad
        · have HV : Hid (r = 3) := by show _ = _; rw [hw, if_neg (by omega), if_pos (by omega)]
          clear hw
          go_enter Tryz.func25, Tryz.ntmps25
          go_wp2_with (first | (go_at_call 23; refine (KZ _).mono ?_; rintro e w2 ⟨rfl, hb⟩))
          go_ret
          exact ⟨za1 HV.out.symm, hb⟩
        · by_cases hx : len - 2 < ad
          · have HV : Hid (r = 3) := by show _ = _; rw [hw, if_neg (by omega), if_pos (by omega)]
            clear hw
            go_enter Tryz.func25, Tryz.ntmps25
            go_wp2_with (first | (go_at_call 23; refine (KZ _).mono ?_; rintro e w2 ⟨rfl, hb⟩))
            go_ret
            exact ⟨za1 HV.out.symm, hb⟩
          · have HV : Hid (r = 0) := by show _ = _; rw [hw, if_neg (by omega), if_neg (by omega)]
            clear hw
            go_enter Tryz.func25, Tryz.ntmps25
            go_wp2_with (first | (go_at_call 23; refine (KZ _).mono ?_; rintro e w2 ⟨rfl, hb⟩))
            go_ret
            exact ⟨za1 HV.out.symm, hb⟩
    · have h4b : (ad / 2 * 2 == ad) = false := by simpa using h4
      have HV : Hid (r = 4) := by show _ = _; rw [hw, if_pos (by omega)]
      clear hw
      go_enter Tryz.func25, Tryz.ntmps25
      go_wp2_with (first | (go_at_call 23; refine (KZ _).mono ?_; rintro e w2 ⟨rfl, hb⟩))
      go_ret
      exact ⟨za1 HV.out.symm, hb⟩
  · have hw := zR5 (ad := ad) (len := len) hs (by decide)
    rw [hs] at KZ
    clear hs
    generalize whrV op ad len = r at *
    by_cases h4 : ad / 4 * 4 = ad
    · have h4b : (ad / 4 * 4 == ad) = true := by rw [h4]; exact beq_self_eq_true ad
      by_cases h3 : len < 4
      · have HV : Hid (r = 3) := by show _ = _; rw [hw, if_neg (by omega), if_pos (by omega)]
        clear hw
        go_enter Tryz.func25, Tryz.ntmps25
        go_wp2_with (first | (go_at_call 23; refine (KZ _).mono ?_; rintro e w2 ⟨rfl, hb⟩))
        go_ret
        exact ⟨za1 HV.out.symm, hb⟩
      · by_cases h9 : 9000000000000000000 < ad
        · have HV : Hid (r = 3) := by show _ = _; rw [hw, if_neg (by omega), if_pos (by omega)]
          clear hw
          go_enter Tryz.func25, Tryz.ntmps25
          go_wp2_with (first | (go_at_call 23; refine (KZ _).mono ?_; rintro e w2 ⟨rfl, hb⟩))
          go_ret
          exact ⟨za1 HV.out.symm, hb⟩
        · by_cases hx : len - 4 < ad
          · have HV : Hid (r = 3) := by show _ = _; rw [hw, if_neg (by omega), if_pos (by omega)]
            clear hw
            go_enter Tryz.func25, Tryz.ntmps25
            go_wp2_with (first | (go_at_call 23; refine (KZ _).mono ?_; rintro e w2 ⟨rfl, hb⟩))
            go_ret
            exact ⟨za1 HV.out.symm, hb⟩
          · have HV : Hid (r = 0) := by show _ = _; rw [hw, if_neg (by omega), if_neg (by omega)]
            clear hw
            go_enter Tryz.func25, Tryz.ntmps25
            go_wp2_with (first | (go_at_call 23; refine (KZ _).mono ?_; rintro e w2 ⟨rfl, hb⟩))
            go_ret
            exact ⟨za1 HV.out.symm, hb⟩
    · have h4b : (ad / 4 * 4 == ad) = false := by simpa using h4
      have HV : Hid (r = 4) := by show _ = _; rw [hw, if_pos (by omega)]
      clear hw
      go_enter Tryz.func25, Tryz.ntmps25
      go_wp2_with (first | (go_at_call 23; refine (KZ _).mono ?_; rintro e w2 ⟨rfl, hb⟩))
      go_ret
      exact ⟨za1 HV.out.symm, hb⟩
  · have hw := zR5 (ad := ad) (len := len) hs (by decide)
    rw [hs] at KZ
    clear hs
    generalize whrV op ad len = r at *
    by_cases h4 : ad / 8 * 8 = ad
    · have h4b : (ad / 8 * 8 == ad) = true := by rw [h4]; exact beq_self_eq_true ad
      by_cases h3 : len < 8
      · have HV : Hid (r = 3) := by show _ = _; rw [hw, if_neg (by omega), if_pos (by omega)]
        clear hw
        go_enter Tryz.func25, Tryz.ntmps25
        go_wp2_with (first | (go_at_call 23; refine (KZ _).mono ?_; rintro e w2 ⟨rfl, hb⟩))
        go_ret
        exact ⟨za1 HV.out.symm, hb⟩
      · by_cases h9 : 9000000000000000000 < ad
        · have HV : Hid (r = 3) := by show _ = _; rw [hw, if_neg (by omega), if_pos (by omega)]
          clear hw
          go_enter Tryz.func25, Tryz.ntmps25
          go_wp2_with (first | (go_at_call 23; refine (KZ _).mono ?_; rintro e w2 ⟨rfl, hb⟩))
          go_ret
          exact ⟨za1 HV.out.symm, hb⟩
        · by_cases hx : len - 8 < ad
          · have HV : Hid (r = 3) := by show _ = _; rw [hw, if_neg (by omega), if_pos (by omega)]
            clear hw
            go_enter Tryz.func25, Tryz.ntmps25
            go_wp2_with (first | (go_at_call 23; refine (KZ _).mono ?_; rintro e w2 ⟨rfl, hb⟩))
            go_ret
            exact ⟨za1 HV.out.symm, hb⟩
          · have HV : Hid (r = 0) := by show _ = _; rw [hw, if_neg (by omega), if_neg (by omega)]
            clear hw
            go_enter Tryz.func25, Tryz.ntmps25
            go_wp2_with (first | (go_at_call 23; refine (KZ _).mono ?_; rintro e w2 ⟨rfl, hb⟩))
            go_ret
            exact ⟨za1 HV.out.symm, hb⟩
    · have h4b : (ad / 8 * 8 == ad) = false := by simpa using h4
      have HV : Hid (r = 4) := by show _ = _; rw [hw, if_pos (by omega)]
      clear hw
      go_enter Tryz.func25, Tryz.ntmps25
      go_wp2_with (first | (go_at_call 23; refine (KZ _).mono ?_; rintro e w2 ⟨rfl, hb⟩))
      go_ret
      exact ⟨za1 HV.out.symm, hb⟩
end Go.Proofs.YtoeekibcelaloaaGreatDoor
