/- The contracts of Less and Same, the program's and the document's: by their places in the order. -/
import Derived.Test.YtbpcggoplacplaaRows
import Derived.Test.YtbpcggoplacplaaFl
import Derived.Test.YtbpcggoplacplaaPr
import Derived.WalkKit
import Derived.WalkLawsBesides
import Derived.Deep.QuietTactic
import Derived.BigQuiet
import Derived.WalkSmall
import Derived.WalkSpells
import Derived.Lib.Hide
import Derived.Laws.BitsAllLaws
namespace Go.Proofs.Ytbpcggoplacplaa
open Go.RowKit

theorem nan_rk {b : Nat} (h : nanB b = true) : rk b = 18446744073709551615 := by unfold rk; rw [if_pos h]
theorem pos_rk {b : Nat} (_ : b < 18446744073709551616) (h : nanB b = false) : (sgn b = true ∧ rk b = 9223372036854775807 + ky b) ∨ (sgn b = false ∧ rk b = 9223372036854775808 + ky b) := by
  unfold rk ky sgn
  rw [if_neg (by simp [h])]
  by_cases hs : 9223372036854775808 ≤ b
  · left; simp [hs]; omega
  · right; simp [hs]
theorem ky_sgn {b : Nat} : (sgn b = true → ky b ≤ 0) ∧ (sgn b = false → 0 ≤ ky b) := by
  unfold sgn ky
  by_cases hs : 9223372036854775808 ≤ b
  · simp [hs]
  · simp [hs]
theorem rk_max {b : Nat} (hb : b < 18446744073709551616) (h : nanB b = false) : rk b < 18446744073709551615 := by
  have h1 : rk b ≤ 9223372036854775808 + ky b := by have := pos_rk hb h; omega
  have h4 : ky b ≤ rng b := by unfold ky; split <;> omega
  unfold nanB at h
  simp at h
  omega

theorem less_any (a b : Nat) (ha : a < 18446744073709551616) (hb : b < 18446744073709551616) (w : World) :
    Calls Try.prog 17 #[.float .f64 a, .float .f64 b] w fun e w' => e = .returned (.bool (lessB a b)) ∧ w = w' := by
  have ra := rk_lt a ha
  have rb := rk_lt b hb
  cases na : nanB a
  · cases nb : nanB b
    · have pa := pos_rk ha na
      have pb := pos_rk hb nb
      have ka := @ky_sgn a
      have kb := @ky_sgn b
      have HE := ord_eq ha hb
      have HL := ord_lt ha hb
      rw [na, nb] at HE HL
      simp only [Bool.not_false, Bool.true_and] at HE HL
      by_cases he : ky a = ky b
      · rw [decide_eq_true he] at HE
        have he' : (FloatKind.f64.format.order a b == some .eq) = true := HE
        clear HE HL
        have HR : Hid (lessB a b = (sgn a && !sgn b)) := by
          show _ = _
          unfold lessB
          cases sa : sgn a <;> cases sb : sgn b <;> simp [sa, sb] at pa pb ka kb ⊢ <;> omega
        have Hpa := Lib.hid pa
        have Hpb := Lib.hid pb
        have Hna := Lib.hid na
        have HHe := Lib.hid he
        clear pa pb ka kb he ra rb
        cases sa : sgn a <;> cases sb : sgn b
        all_goals
          rw [sa, sb] at HR
          go_enter Try.func17, Try.ntmps17
          go_wp2_with (first
            | (go_at_call 24; refine (isnan_any _ (by assumption) _).mono ?_; rintro e w' ⟨rfl, rfl⟩)
            | (go_at_call 25; refine (signbit_any _ (by assumption) _).mono ?_; rintro e w' ⟨rfl, rfl⟩))
          go_ret
          exact ⟨ret_bool HR.out.symm, rfl⟩
      · rw [decide_eq_false he] at HE
        have he' : (FloatKind.f64.format.order a b == some .eq) = false := HE
        have HR : Hid ((FloatKind.f64.format.order a b == some .lt) = lessB a b) := by
          show _ = _
          refine HL.trans ?_
          unfold lessB
          rw [Bool.eq_iff_iff]
          cases sa : sgn a <;> cases sb : sgn b <;> simp [sa, sb] at pa pb ka kb ⊢ <;> omega
        clear HE HL pa pb ka kb he ra rb
        go_enter Try.func17, Try.ntmps17
        go_wp2_with (first
          | (go_at_call 24; refine (isnan_any _ (by assumption) _).mono ?_; rintro e w' ⟨rfl, rfl⟩)
          | (go_at_call 25; refine (signbit_any _ (by assumption) _).mono ?_; rintro e w' ⟨rfl, rfl⟩))
        go_ret
        exact ⟨ret_bool HR.out, rfl⟩
    · have HR : Hid (lessB a b = true) := by
        show _ = _
        have := nan_rk nb
        have := rk_max ha na
        unfold lessB; simp; omega
      clear ra rb
      go_enter Try.func17, Try.ntmps17
      go_wp2_with (first
        | (go_at_call 24; refine (isnan_any _ (by assumption) _).mono ?_; rintro e w' ⟨rfl, rfl⟩))
      go_ret
      exact ⟨ret_bool HR.out.symm, rfl⟩
  · have HR : Hid (lessB a b = false) := by
      show _ = _
      have := nan_rk na
      unfold lessB; simp; omega
    clear ra rb
    go_enter Try.func17, Try.ntmps17
    go_wp2_with (first
      | (go_at_call 24; refine (isnan_any _ (by assumption) _).mono ?_; rintro e w' ⟨rfl, rfl⟩))
    go_ret
    exact ⟨ret_bool HR.out.symm, rfl⟩

theorem same_any (a b : Nat) (ha : a < 18446744073709551616) (hb : b < 18446744073709551616) (w : World) :
    Calls Try.prog 19 #[.float .f64 a, .float .f64 b] w fun e w' => e = .returned (.bool (sameB a b)) ∧ w = w' := by
  have ra := rk_lt a ha
  have rb := rk_lt b hb
  have HE := ord_eq ha hb
  cases na : nanB a
  · cases nb : nanB b
    · have pa := pos_rk ha na
      have pb := pos_rk hb nb
      have ka := @ky_sgn a
      have kb := @ky_sgn b
      rw [na, nb] at HE
      simp only [Bool.not_false, Bool.true_and] at HE
      by_cases he : ky a = ky b
      · rw [decide_eq_true he] at HE
        have he' : (FloatKind.f64.format.order a b == some .eq) = true := HE
        have HR : Hid ((sgn a == sgn b) = sameB a b) := by
          show _ = _
          unfold sameB
          cases sa : sgn a <;> cases sb : sgn b <;> simp [sa, sb] at pa pb ka kb ⊢ <;> omega
        clear HE pa pb ka kb he ra rb
        go_enter Try.func19, Try.ntmps19
        go_wp2_with (first
          | (go_at_call 24; refine (isnan_any _ (by assumption) _).mono ?_; rintro e w' ⟨rfl, rfl⟩)
          | (go_at_call 25; refine (signbit_any _ (by assumption) _).mono ?_; rintro e w' ⟨rfl, rfl⟩))
        go_ret
        exact ⟨ret_bool HR.out, rfl⟩
      · rw [decide_eq_false he] at HE
        have he' : (FloatKind.f64.format.order a b == some .eq) = false := HE
        have HR : Hid (false = sameB a b) := by
          show _ = _
          unfold sameB
          symm
          cases sa : sgn a <;> cases sb : sgn b <;> simp [sa, sb] at pa pb ka kb ⊢ <;> omega
        clear HE pa pb ka kb he ra rb
        go_enter Try.func19, Try.ntmps19
        go_wp2_with (first
          | (go_at_call 24; refine (isnan_any _ (by assumption) _).mono ?_; rintro e w' ⟨rfl, rfl⟩)
          | (go_at_call 25; refine (signbit_any _ (by assumption) _).mono ?_; rintro e w' ⟨rfl, rfl⟩))
        go_ret
        exact ⟨ret_bool HR.out, rfl⟩
    · rw [na, nb] at HE
      have he' : (FloatKind.f64.format.order a b == some .eq) = false := HE
      have HR : Hid (false = sameB a b) := by
        show _ = _
        have := nan_rk nb
        have := rk_max ha na
        unfold sameB; symm; simp; omega
      clear HE ra rb
      go_enter Try.func19, Try.ntmps19
      go_wp2_with (first
        | (go_at_call 24; refine (isnan_any _ (by assumption) _).mono ?_; rintro e w' ⟨rfl, rfl⟩))
      go_ret
      exact ⟨ret_bool HR.out, rfl⟩
  · have HR : Hid (nanB b = sameB a b) := by
      show _ = _
      have h1 := nan_rk na
      unfold sameB
      rw [h1]
      cases nb : nanB b
      · have := rk_max hb nb; symm; simp; omega
      · rw [nan_rk nb]; simp
    clear ra rb HE
    go_enter Try.func19, Try.ntmps19
    go_wp2_with (first
      | (go_at_call 24; refine (isnan_any _ (by assumption) _).mono ?_; rintro e w' ⟨rfl, rfl⟩))
    go_ret
    exact ⟨ret_bool HR.out, rfl⟩

/-! ### The document's -/
theorem andnot_top (b : Nat) (hb : b < 18446744073709551616) : bits .andNot .u64 (b : Int) 9223372036854775808 = (rng b : Int) := by
  rw [show (9223372036854775808 : Int) = ((9223372036854775808 : Nat) : Int) from rfl, u64_andNot_nat b _ hb (by decide),
    show 18446744073709551615 - 9223372036854775808 = 2 ^ 63 - 1 by decide, Nat.and_two_pow_sub_one_eq_mod]
  unfold rng; split <;> omega

theorem none_any (b : Nat) (hb : b < 18446744073709551616) (w : World) :
    Calls Try.prog 15 #[.float .f64 b] w fun e w' => e = .returned (.bool (nanB b)) ∧ w = w' := by
  have hd := call_bits b
  have ha := andnot_top b hb
  have HR : Hid (decide (9218868437227405312 < (rng b : Int)) = nanB b) := by
    show _ = _
    unfold nanB; rw [Bool.eq_iff_iff]; simp; omega
  go_enter Try.func15, Try.ntmps15
  go_wp2
  go_ret
  exact ⟨ret_bool HR.out, rfl⟩

theorem rank_any (b : Nat) (hb : b < 18446744073709551616) (w : World) :
    Calls Try.prog 14 #[.float .f64 b] w fun e w' => e = .returned (.int .u64 (rk b)) ∧ w = w' := by
  have hd := call_bits b
  cases nb : nanB b
  · by_cases hs : 9223372036854775808 ≤ b
    · have HR : Hid (rk b = 9223372036854775807 - (b - 9223372036854775808)) := by
        show _ = _
        unfold rk; rw [nb]; unfold sgn rng; simp [hs]; omega
      go_enter Try.func14, Try.ntmps14
      go_wp2_with (first
        | (go_at_call 15; refine (none_any _ (by assumption) _).mono ?_; rintro e w' ⟨rfl, rfl⟩))
      go_ret
      exact ⟨ret_int HR.out.symm, rfl⟩
    · have HR : Hid (rk b = b + 9223372036854775808) := by
        show _ = _
        unfold rk; rw [nb]; unfold sgn rng; simp [hs]; omega
      go_enter Try.func14, Try.ntmps14
      go_wp2_with (first
        | (go_at_call 15; refine (none_any _ (by assumption) _).mono ?_; rintro e w' ⟨rfl, rfl⟩))
      go_ret
      exact ⟨ret_int HR.out.symm, rfl⟩
  · have HR := Lib.hid (nan_rk nb)
    go_enter Try.func14, Try.ntmps14
    go_wp2_with (first
      | (go_at_call 15; refine (none_any _ (by assumption) _).mono ?_; rintro e w' ⟨rfl, rfl⟩))
    go_ret
    exact ⟨ret_int HR.out.symm, rfl⟩

theorem rless_any (a b : Nat) (ha : a < 18446744073709551616) (hb : b < 18446744073709551616) (w : World) :
    Calls Try.prog 18 #[.float .f64 a, .float .f64 b] w fun e w' => e = .returned (.bool (lessB a b)) ∧ w = w' := by
  have HR : Hid (decide (rk a < rk b) = lessB a b) := rfl
  go_enter Try.func18, Try.ntmps18
  go_wp2_with (first
    | (go_at_call 14; refine (rank_any _ (by assumption) _).mono ?_; rintro e w' ⟨rfl, rfl⟩))
  go_ret
  exact ⟨ret_bool HR.out, rfl⟩

end Go.Proofs.Ytbpcggoplacplaa
