/- The contract of the document's Step, by bits: the program's answer. -/
import Derived.Test.YtbpcggoplacplaaRows
import Derived.Test.YtbpcggoplacplaaFl
import Derived.Test.YtbpcggoplacplaaPr
import Derived.Test.YtbpcggoplacplaaLs
import Derived.Test.YtbpcggoplacplaaSt
import Derived.WalkKit
import Derived.WalkLawsBesides
import Derived.Deep.QuietTactic
import Derived.BigQuiet
import Derived.WalkSmall
import Derived.WalkSpells
import Derived.Lib.Hide
import Derived.Deep.Cut
import Derived.Laws.BitsAllLaws
namespace Go.Proofs.Ytbpcggoplacplaa
open Go.RowKit

theorem and_low (b : Nat) (hb : b < 18446744073709551616) : bits .and .u64 (b : Int) 4503599627370495 = ((b % 4503599627370496 : Nat) : Int) := by
  rw [show (4503599627370495 : Int) = ((4503599627370495 : Nat) : Int) from rfl, u64_and_nat b _ hb (by decide),
    show 4503599627370495 = 2 ^ 52 - 1 by decide, Nat.and_two_pow_sub_one_eq_mod]

/-- A word between 1 and 2^53, by its fraction. -/
theorem MM_mid {b k : Nat} (h1 : 1023 ≤ b / 4503599627370496) (hk : b / 4503599627370496 + k = 1075) :
    MM b = (b % 4503599627370496 + 4503599627370496) * 2 ^ (b / 4503599627370496 - 1) ∧ KK = 2 ^ k * 2 ^ (b / 4503599627370496 - 1) := by
  constructor
  · unfold MM DD PP; rw [if_neg (by omega), Nat.add_comm]
  · exact KK_split (by omega)
theorem mid_mod {n p k : Nat} : (n * 2 ^ p % (2 ^ k * 2 ^ p) = 0 ↔ n % 2 ^ k = 0) ∧ n * 2 ^ p / (2 ^ k * 2 ^ p) = n / 2 ^ k := by
  have hp := Nat.two_pow_pos p
  refine ⟨?_, Nat.mul_div_mul_right _ _ hp⟩
  rw [Nat.mul_mod_mul_right]
  constructor
  · intro h; rcases Nat.mul_eq_zero.1 h with g | g
    · exact g
    · omega
  · intro h; rw [h, Nat.zero_mul]
theorem isS_mid {b k : Nat} (hb : b ≤ 4845873199050653696) (h1 : 1023 ≤ b / 4503599627370496) (hk : b / 4503599627370496 + k = 1075) :
    isS b = decide ((b % 4503599627370496 + 4503599627370496) % 2 ^ k = 0) ∧ stp b = (b % 4503599627370496 + 4503599627370496) / 2 ^ k := by
  obtain ⟨e1, e2⟩ := MM_mid h1 hk
  unfold isS stp
  rw [e1, e2, (mid_mod (k := k)).2]
  refine ⟨?_, rfl⟩
  rw [decide_eq_true hb, Bool.true_and]
  exact decide_eq_decide.2 (mid_mod (k := k)).1
theorem isS_low {b : Nat} (h0 : b ≠ 0) (h1 : b / 4503599627370496 < 1023) : isS b = false := by
  have hp : MM b < KK := by
    have h2 : MM b < MM (1023 * 4503599627370496) := MM_lt (by omega)
    have h3 : DD (1023 * 4503599627370496) = 2 ^ 52 := by decide
    have h4 : PP (1023 * 4503599627370496) = 1022 := by decide
    unfold MM at h2 ⊢
    rw [h3, ← KK_split (i := 52) (j := PP (1023 * 4503599627370496)) (by rw [h4])] at h2
    exact h2
  have hz : 0 < MM b := by have := MM_lt (r := 0) (s := b) (by omega); rw [MM_zero] at this; exact this
  unfold isS
  rw [Nat.mod_eq_of_lt hp, Bool.and_eq_false_iff]
  right
  simp; omega

theorem mid_word {n k : Nat} (hn : n < 9007199254740992) :
    (IntKind.u64.wrap ((n : Int) / 2 ^ k * 2 ^ k) != (n : Int)) = !decide (n % 2 ^ k = 0) ∧ wrap64 ((n : Int) / 2 ^ k) = ((n / 2 ^ k : Nat) : Int) := by
  have e1 : (n : Int) / 2 ^ k = ((n / 2 ^ k : Nat) : Int) := by rw [Int.natCast_ediv, Int.natCast_pow]; rfl
  have e2 : ((n / 2 ^ k : Nat) : Int) * 2 ^ k = ((n / 2 ^ k * 2 ^ k : Nat) : Int) := by rw [Int.natCast_mul, Int.natCast_pow]; rfl
  have h1 := Nat.div_add_mod n (2 ^ k)
  rw [Nat.mul_comm] at h1
  have h2 : n / 2 ^ k ≤ n := Nat.div_le_self _ _
  rw [wrap64_eq, e1, e2, IntKind.wrap_u64, IntKind.wrap_i64]
  generalize n / 2 ^ k * 2 ^ k = m at *
  generalize n / 2 ^ k = d at *
  generalize n % 2 ^ k = r at *
  constructor
  · rw [Bool.eq_iff_iff]; simp; omega
  · omega

set_option maxRecDepth 100000 in
theorem rstep_any (b : Nat) (hb : b < 18446744073709551616) (w : World) :
    Calls Try.prog 11 #[.float .f64 b] w fun e w' => e = .returned (.tuple #[.int .i64 (stV b), .bool (isS b)]) ∧ w = w' := by
  have hd := call_bits b
  obtain ⟨q, hq⟩ : ∃ q : Nat, b / 4503599627370496 = q := ⟨_, rfl⟩
  obtain ⟨f, hf⟩ : ∃ f : Nat, b % 4503599627370496 = f := ⟨_, rfl⟩
  have ha : bits .and .u64 (b : Int) 4503599627370495 = (f : Int) := by rw [and_low b hb, hf]
  have hqi : (b : Int) / 4503599627370496 = (q : Int) := by omega
  have hf1 : (f : Int) < 4503599627370496 := by omega
  have hq1 : (q : Int) < 4096 := by omega
  have HQ := Lib.hid hq
  have HF := Lib.hid hf
  by_cases h0 : b = 0
  · have HS : Hid (isS b = true) := by show _ = _; subst h0; unfold isS; rw [MM_zero]; simp
    have HV : Hid (stV b = 0) := by show _ = _; unfold stV; rw [HS.out]; subst h0; unfold stp; rw [MM_zero]; simp
    have ht : ((b : Int) == 0) = true := by simp; omega
    have H0 := Lib.hid h0
    clear h0 hq hf hqi hf1 hq1
    go_enter Try.func11, Try.ntmps11
    go_wp2
    go_ret2
    exact ⟨ret_ib HV.out.symm HS.out.symm, rfl⟩
  · have ht : ((b : Int) == 0) = false := by simp; omega
    by_cases hs : 9223372036854775808 ≤ b
    · have HS := Lib.hid (isS_big (b := b) (by omega))
      have HV := Lib.hid (stV_no HS.out)
      have ht2 : ((b : Int) / 9223372036854775808 == 1) = true := by simp; omega
      clear h0 hq hf hs
      go_enter Try.func11, Try.ntmps11
      go_wp2
      go_ret2
      exact ⟨ret_ib HV.out.symm HS.out.symm, rfl⟩
    · have ht2 : ((b : Int) / 9223372036854775808 == 1) = false := by simp; omega
      by_cases h1 : q < 1023
      · have HS := Lib.hid (isS_low h0 (by rw [hq]; exact h1))
        have HV := Lib.hid (stV_no HS.out)
        have h1' : (q : Int) - 1023 < 0 := by omega
        clear h0 hq hf hs h1
        go_enter Try.func11, Try.ntmps11
        go_wp2
        go_ret2
        exact ⟨ret_ib HV.out.symm HS.out.symm, rfl⟩
      · by_cases h2 : 1076 < q
        · have HS := Lib.hid (isS_big (b := b) (by omega))
          have HV := Lib.hid (stV_no HS.out)
          have h1' : ¬ (q : Int) - 1023 < 0 := by omega
          have h2' : 53 < (q : Int) - 1023 := by omega
          clear h0 hq hf hs h1 h2
          go_enter Try.func11, Try.ntmps11
          go_wp2
          go_ret2
          exact ⟨ret_ib HV.out.symm HS.out.symm, rfl⟩
        · by_cases h3 : q = 1076
          · by_cases h4 : f = 0
            · have hbb : b = 4845873199050653696 := by omega
              have HS : Hid (isS b = true) := by show _ = _; rw [hbb]; exact (isS_flo (n := 9007199254740992) (by decide)).1
              have HV : Hid (stV b = 9007199254740992) := by
                show _ = _; unfold stV; rw [HS.out, hbb]; exact congrArg Int.ofNat (isS_flo (n := 9007199254740992) (by decide)).2
              subst h3
              subst h4
              clear h0 hq hf hs h1 h2 hbb hq1 hf1
              go_enter Try.func11, Try.ntmps11
              go_wp2
              go_ret2
              exact ⟨ret_ib HV.out.symm HS.out.symm, rfl⟩
            · have HS := Lib.hid (isS_big (b := b) (by omega))
              have HV := Lib.hid (stV_no HS.out)
              have ht3 : ((f : Int) + 4503599627370496 != 4503599627370496) = true := by simp; omega
              have hf0 : (0 : Int) < f := by omega
              subst h3
              clear h0 hq hf hs h1 h2 hq1 h4
              go_enter Try.func11, Try.ntmps11
              go_wp2
              go_ret2
              exact ⟨ret_ib HV.out.symm HS.out.symm, rfl⟩
          · have hle : b ≤ 4845873199050653696 := by omega
            obtain ⟨k, hk⟩ : ∃ k, q + k = 1075 := ⟨1075 - q, by omega⟩
            obtain ⟨hS, hP⟩ := isS_mid (k := k) hle (by omega) (by omega)
            rw [hf] at hS hP
            obtain ⟨h5, h6⟩ := mid_word (n := f + 4503599627370496) (k := k) (by omega)
            obtain ⟨N, hN⟩ : ∃ N : Int, (f : Int) + 4503599627370496 = N := ⟨_, rfl⟩
            obtain ⟨c, hc⟩ : ∃ c : Int, 52 - ((q : Int) - 1023) = c := ⟨_, rfl⟩
            have hck : c.toNat = k := by omega
            have hc0 : 0 ≤ c := by omega
            have hc52 : c ≤ 52 := by omega
            have h1' : ¬ (q : Int) - 1023 < 0 := by omega
            have h2' : ¬ 53 < (q : Int) - 1023 := by omega
            have h3' : (q : Int) - 1023 ≤ 52 := by omega
            rw [← hS, ← hck, show ((f + 4503599627370496 : Nat) : Int) = N by omega] at h5
            rw [← hP, ← hck, show ((f + 4503599627370496 : Nat) : Int) = N by omega] at h6
            clear h0 hq hf hs h1 h2 h3 hle hk hS hP hck
            cases hi : isS b
            · have HV := Lib.hid (stV_no hi)
              rw [hi] at h5
              have h7 : (IntKind.u64.wrap (N / 2 ^ c.toNat * 2 ^ c.toNat) != N) = true := h5
              clear h5 h6
              go_enter Try.func11, Try.ntmps11
              go_upto_region 10 with (fail)
              clear ha hqi ht ht2 hf1 h1' h2' h3' hN hc hd hb
              go_wp2
              go_ret2
              exact ⟨ret_ib HV.out.symm rfl, rfl⟩
            · have HV : Hid (wrap64 (N / 2 ^ c.toNat) = stV b) := by
                show _ = _
                unfold stV; rw [hi]; exact h6
              rw [hi] at h5
              have h7 : (IntKind.u64.wrap (N / 2 ^ c.toNat * 2 ^ c.toNat) != N) = false := h5
              clear h5 h6
              go_enter Try.func11, Try.ntmps11
              go_upto_region 10 with (fail)
              clear ha hqi ht ht2 hf1 h1' h2' h3' hN hc hd hb
              go_wp2
              go_ret2
              exact ⟨ret_ib HV.out rfl, rfl⟩

end Go.Proofs.Ytbpcggoplacplaa
