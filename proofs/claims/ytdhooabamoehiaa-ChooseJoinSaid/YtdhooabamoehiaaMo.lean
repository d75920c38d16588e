/- More of floating-point words of 64 bits, as plain numbers: exact results, the floor of every size, and the steps of a remainder. Nothing here speaks of a program. -/
import Derived.Test.YtdhooabamoehiaaFl
namespace Go.Proofs.Ytdhooabamoehiaa
open Ieee

theorem even_cut (d j : Nat) : Toward.even.cut false (d * 2 ^ j) j = d := by
  have hj : 0 < 2 ^ j := Nat.two_pow_pos j
  rcases Nat.eq_zero_or_pos d with h | h
  · subst h
    unfold Toward.cut
    simp only [Nat.zero_mul, Nat.shiftLeft_eq, Nat.one_mul, Nat.zero_div, Nat.zero_mod]
    have : 0 < 2 ^ min j (Nat.log2 0 + 2) := Nat.two_pow_pos _
    have e1 : (decide (2 ^ min j (Nat.log2 0 + 2) < 2 * 0)) = false := by simp
    have e2 : (2 ^ min j (Nat.log2 0 + 2) == 2 * 0) = false := by simp
    rw [e1, e2]; rfl
  · have hn : d * 2 ^ j ≠ 0 := by have := Nat.mul_pos h hj; omega
    have hl : j ≤ (d * 2 ^ j).log2 := (Nat.le_log2 hn).2 (Nat.le_mul_of_pos_left _ h)
    unfold Toward.cut
    rw [Nat.min_eq_left (by omega)]
    simp only [Nat.shiftLeft_eq, Nat.one_mul]
    rw [Nat.mul_div_cancel _ hj, Nat.mul_mod_left]
    have e1 : (decide (2 ^ j < 2 * 0)) = false := by simp
    have e2 : (2 ^ j == 2 * 0) = false := by simp
    rw [e1, e2]; rfl

theorem DD_norm {s : Nat} (h : 4503599627370496 ≤ s) : 4503599627370496 ≤ DD s ∧ DD s < 9007199254740992 ∧ s = PP s * 4503599627370496 + DD s := by
  unfold DD PP; rw [if_neg (by omega)]; omega

theorem nearest_of {N P s : Nat} (h1 : 4503599627370496 ≤ s) (h2 : s < 9218868437227405312) (h : MM s = N * 2 ^ P) : double.nearest false N (-1074 + (P : Int)) = s := by
  obtain ⟨d1, d2, d3⟩ := DD_norm h1
  have hP : 0 < 2 ^ P := Nat.two_pow_pos _
  have hq : 0 < 2 ^ PP s := Nat.two_pow_pos _
  have hN : N ≠ 0 := by
    rintro rfl
    unfold MM at h
    have := Nat.mul_pos (show 0 < DD s by omega) hq
    omega
  have hl0 : 2 ^ N.log2 ≤ N := Nat.log2_self_le hN
  have hl1 : N < 2 ^ (N.log2 + 1) := Nat.lt_log2_self
  unfold MM at h
  have k1 : 2 ^ (52 + PP s) ≤ N * 2 ^ P := by
    rw [← h, Nat.pow_add]; exact Nat.mul_le_mul_right _ (by omega)
  have k2 : N * 2 ^ P < 2 ^ (53 + PP s) := by
    rw [← h, Nat.pow_add]; exact Nat.mul_lt_mul_of_pos_right (by omega) hq
  have k3 : 2 ^ (N.log2 + P) ≤ N * 2 ^ P := by rw [Nat.pow_add]; exact Nat.mul_le_mul_right _ hl0
  have k4 : N * 2 ^ P < 2 ^ (N.log2 + 1 + P) := by rw [Nat.pow_add]; exact Nat.mul_lt_mul_of_pos_right hl1 hP
  have j1 : N.log2 + P < 53 + PP s := (Nat.pow_lt_pow_iff_right (by decide : 1 < 2)).1 (Nat.lt_of_le_of_lt k3 k2)
  have j2 : 52 + PP s < N.log2 + 1 + P := (Nat.pow_lt_pow_iff_right (by decide : 1 < 2)).1 (Nat.lt_of_le_of_lt k1 k4)
  unfold Format.nearest
  rw [if_neg hN, fbb, finf, flp]
  have el : max (-1074 + (P : Int) + N.log2 - (double.fractionBits : Nat)) (-1074) = -1074 + (PP s : Int) := by
    rw [show (double.fractionBits : Nat) = 52 from rfl]; omega
  simp only [el]
  rw [show (-1074 + (P : Int) - (-1074 + (PP s : Int))).toNat = P - PP s by omega, show (-1074 + (PP s : Int) - (-1074 + (P : Int))).toNat = PP s - P by omega,
    show (-1074 + (PP s : Int) - -1074).toNat = PP s by omega, Nat.shiftLeft_eq]
  have ec : Toward.even.cut false (N * 2 ^ (P - PP s)) (PP s - P) = DD s := by
    rcases Nat.le_total P (PP s) with g | g
    · rw [Nat.sub_eq_zero_of_le g, Nat.pow_zero, Nat.mul_one]
      have e : N = DD s * 2 ^ (PP s - P) := by
        refine Nat.eq_of_mul_eq_mul_right hP ?_
        rw [← h, Nat.mul_assoc, ← Nat.pow_add, Nat.sub_add_cancel g]
      rw [e]; exact even_cut _ _
    · rw [Nat.sub_eq_zero_of_le g]
      have e : N * 2 ^ (P - PP s) = DD s := by
        refine Nat.eq_of_mul_eq_mul_right hq ?_
        rw [h, Nat.mul_assoc, ← Nat.pow_add, Nat.sub_add_cancel g]
      rw [e]
      have := even_cut (DD s) 0
      rwa [Nat.pow_zero, Nat.mul_one] at this
  rw [ec]
  unfold Format.word
  rw [if_neg (by decide), Nat.min_eq_left (by omega)]
  exact d3.symm

theorem parts {m : Nat} (k q : Nat) (hk : 4503599627370496 ≤ k) (hk' : k < 9007199254740992) (hm : m = q * 4503599627370496 + k) : MM m = k * 2 ^ q ∧ 4503599627370496 ≤ m := by
  have h1 : 4503599627370496 ≤ m := by omega
  refine ⟨?_, h1⟩
  unfold MM DD PP
  rw [if_neg (by omega), show m / 4503599627370496 - 1 = q by omega, show 4503599627370496 + m % 4503599627370496 = k by omega]

theorem word_of {D q : Nat} (h0 : 0 < D) (h1 : D < 9007199254740992) (hq : 52 ≤ q) (hq' : q ≤ 2045) :
    ∃ s, 4503599627370496 ≤ s ∧ s < 9218868437227405312 ∧ MM s = D * 2 ^ q := by
  have hl0 : 2 ^ D.log2 ≤ D := Nat.log2_self_le (by omega)
  have hl1 : D < 2 ^ (D.log2 + 1) := Nat.lt_log2_self
  have hl : D.log2 ≤ 52 := by
    have : D.log2 < 53 := (Nat.pow_lt_pow_iff_right (by decide : 1 < 2)).1 (Nat.lt_of_le_of_lt hl0 (Nat.lt_of_lt_of_le h1 (by decide)))
    omega
  have hs : 2 ^ (52 - D.log2) * 2 ^ D.log2 = 4503599627370496 := by rw [← Nat.pow_add, Nat.sub_add_cancel hl]
  have a1 : 4503599627370496 ≤ D * 2 ^ (52 - D.log2) := by
    have := Nat.mul_le_mul_right (2 ^ (52 - D.log2)) hl0
    rw [Nat.mul_comm (2 ^ D.log2), hs] at this
    exact this
  have a2 : D * 2 ^ (52 - D.log2) < 9007199254740992 := by
    have := Nat.mul_lt_mul_of_pos_right hl1 (Nat.two_pow_pos (52 - D.log2))
    rw [Nat.pow_succ, Nat.mul_assoc, Nat.mul_comm 2, ← Nat.mul_assoc, Nat.mul_comm (2 ^ D.log2), hs] at this
    omega
  obtain ⟨m, hm⟩ : ∃ m, m = (q + D.log2 - 52) * 4503599627370496 + D * 2 ^ (52 - D.log2) := ⟨_, rfl⟩
  obtain ⟨p1, p2⟩ := parts _ _ a1 a2 hm
  refine ⟨m, p2, by omega, ?_⟩
  rw [p1, Nat.mul_assoc, ← Nat.pow_add, show 52 - D.log2 + (q + D.log2 - 52) = q by omega]

theorem sgn_low {b : Nat} (h : b < 9218868437227405312) : rng b = b ∧ sgn b = false ∧ nanB b = false ∧ ky b = b := by
  have e0 : rng b = b := by unfold rng; rw [if_neg]; omega
  exact ⟨e0, by unfold sgn; simp; omega, by unfold nanB; rw [e0]; simp; omega, by unfold ky; rw [if_neg (by omega), e0]⟩

theorem sub_word {r t : Nat} (hr : r < 9218868437227405312) (ht0 : 238690780250636288 ≤ t) (h : t ≤ r) (h2 : MM r < 2 * MM t) :
    ∃ s, double.sub r t = some s ∧ s < 9218868437227405312 ∧ MM s = MM r - MM t := by
  have ht : t < 9218868437227405312 := by omega
  obtain ⟨r1, r2, _, _⟩ := sgn_low hr
  obtain ⟨t1, t2, _, _⟩ := sgn_low ht
  have hmono : MM t ≤ MM r := by
    rcases Nat.lt_or_ge t r with g | g
    · exact Nat.le_of_lt (MM_lt g)
    · rw [show r = t by omega]; exact Nat.le_refl _
  have hP : PP t ≤ PP r := by unfold PP; omega
  obtain ⟨d1, d2, d3⟩ := DD_norm (s := t) (by omega)
  obtain ⟨p, hp⟩ : ∃ p, PP r = PP t + p := ⟨PP r - PP t, by omega⟩
  have hq : 0 < 2 ^ PP t := Nat.two_pow_pos _
  have eR : MM r = DD r * 2 ^ p * 2 ^ PP t := by unfold MM; rw [hp, Nat.mul_assoc, ← Nat.pow_add, Nat.add_comm p]
  have eT : MM t = DD t * 2 ^ PP t := rfl
  have l1 : DD t ≤ DD r * 2 ^ p := by rw [eR, eT] at hmono; exact Nat.le_of_mul_le_mul_right hmono hq
  have l2 : DD r * 2 ^ p < 2 * DD t := by rw [eR, eT, ← Nat.mul_assoc] at h2; exact Nat.lt_of_mul_lt_mul_right h2
  unfold Format.sub
  rw [read_eq (by omega), read_eq (by omega), r1, t1, if_pos hr, if_pos ht, r2, t2]
  unfold Datum.opposite Datum.sum
  simp only [signed_eq]
  rw [hp, show min (-1074 + ((PP t + p : Nat) : Int)) (-1074 + (PP t : Int)) = -1074 + (PP t : Int) by omega,
    show (-1074 + ((PP t + p : Nat) : Int) - (-1074 + (PP t : Int))).toNat = p by omega, show (-1074 + (PP t : Int) - (-1074 + (PP t : Int))).toNat = 0 by omega, Nat.pow_zero, Nat.mul_one]
  have et : sg false (DD r * 2 ^ p) + sg (!false) (DD t) = ((DD r * 2 ^ p - DD t : Nat) : Int) := by
    show ((DD r * 2 ^ p : Nat) : Int) + -((DD t : Nat) : Int) = _
    generalize DD r * 2 ^ p = z at *
    omega
  rw [et]
  generalize hD : DD r * 2 ^ p - DD t = D
  have hv : D * 2 ^ PP t = MM r - MM t := by rw [← hD, Nat.sub_mul, eR, eT]
  have hneg : (if (D : Int) = 0 then false && !false else decide ((D : Int) < 0)) = false := by
    split
    · rfl
    · simp
  rw [hneg, Int.natAbs_natCast]
  show ∃ s, some (double.nearest false D (-1074 + (PP t : Int))) = some s ∧ _
  rcases Nat.eq_zero_or_pos D with g | g
  · subst g
    refine ⟨0, ?_, by decide, ?_⟩
    · rfl
    · rw [← hv, MM_zero, Nat.zero_mul]
  · obtain ⟨s, s1, s2, s3⟩ := word_of (D := D) (q := PP t) g (by omega) (by unfold PP; omega) (by unfold PP; omega)
    exact ⟨s, congrArg some (nearest_of s1 s2 s3), s2, s3.trans hv⟩

theorem MM_shift {y : Nat} (h : 4503599627370496 ≤ y) (k : Nat) : MM (y + k * 4503599627370496) = MM y * 2 ^ k := by
  obtain ⟨d1, d2, d3⟩ := DD_norm h
  rw [(parts (m := y + k * 4503599627370496) (DD y) (PP y + k) d1 d2 (by omega)).1, Nat.pow_add, ← Nat.mul_assoc]
  rfl

/-- How far a step of the remainder goes. -/
def kk (r y : Nat) : Nat := r / 4503599627370496 - y / 4503599627370496 - (if r % 4503599627370496 < y % 4503599627370496 then 1 else 0)
theorem kk_int {r y : Nat} (h : y ≤ r) : ((kk r y : Nat) : Int) = (r / 4503599627370496 : Nat) - (y / 4503599627370496 : Nat) - (if r % 4503599627370496 < y % 4503599627370496 then 1 else 0) := by
  unfold kk; split <;> omega
theorem kk_ok {r y : Nat} (h : y ≤ r) :
    y + kk r y * 4503599627370496 ≤ r ∧ r < y + kk r y * 4503599627370496 + 4503599627370496 := by
  unfold kk; split <;> omega

theorem mod_step {r y : Nat} (h : y ≤ r) (hy : 4607182418800017408 ≤ y) (hr : r < 9218868437227405312) :
    ∃ s, double.sub r (y + kk r y * 4503599627370496) = some s ∧ s < r ∧ MM s % MM y = MM r % MM y := by
  obtain ⟨h1, h2⟩ := kk_ok h
  have hM := MM_shift (y := y) (by omega) (kk r y)
  have hy0 : 0 < MM y := by have := MM_lt (r := 0) (s := y) (by omega); omega
  have hup : MM r < 2 * MM (y + kk r y * 4503599627370496) := by
    have e := MM_shift (y := y + kk r y * 4503599627370496) (by omega) 1
    rw [Nat.one_mul, Nat.pow_one, Nat.mul_comm (MM _) 2] at e
    rw [← e]; exact MM_lt h2
  obtain ⟨s, s1, s2, s3⟩ := sub_word hr (by omega) h1 hup
  have hmono : MM (y + kk r y * 4503599627370496) ≤ MM r := by
    rcases Nat.lt_or_ge (y + kk r y * 4503599627370496) r with g | g
    · exact Nat.le_of_lt (MM_lt g)
    · exact Nat.le_of_eq (congrArg MM (by omega))
  refine ⟨s, s1, ?_, ?_⟩
  · refine MM_lt_iff.1 ?_
    rw [s3, hM]
    have : 0 < MM y * 2 ^ kk r y := Nat.mul_pos hy0 (Nat.two_pow_pos _)
    rw [hM] at hmono
    omega
  · rw [hM] at s3 hmono
    rw [s3]
    have e : MM r = (MM r - MM y * 2 ^ kk r y) + MM y * 2 ^ kk r y := by omega
    generalize MM r - MM y * 2 ^ kk r y = d at *
    rw [e, Nat.add_mul_mod_self_left]

/-! ### The floor -/
theorem MM_one : MM 4607182418800017408 = KK := by
  have h1 : DD 4607182418800017408 = 2 ^ 52 := by decide
  obtain ⟨j, hj⟩ : ∃ j, j = 1022 := ⟨_, rfl⟩
  have h2 : PP 4607182418800017408 = j := by rw [hj]; decide
  unfold MM
  rw [h1, h2, KK_split (i := 52) (j := j) (by omega)]
theorem stp_small {b : Nat} (h : b < 4607182418800017408) : stp b = 0 := by
  unfold stp
  have := MM_lt h
  rw [MM_one] at this
  exact Nat.div_eq_of_lt this
theorem stp_mid {b : Nat} (h0 : 4607182418800017408 ≤ b) (h : b < 4845873199050653696) : stp b = DD b / 2 ^ (1075 - b / 4503599627370496) := by
  unfold stp MM
  have hP : PP b = b / 4503599627370496 - 1 := rfl
  rw [KK_split (i := 1075 - b / 4503599627370496) (j := PP b) (by omega), Nat.mul_div_mul_right _ _ (Nat.two_pow_pos _)]
theorem big_eq {b : Nat} (h0 : 4841369599423283200 ≤ b) : MM b = DD b * 2 ^ (b / 4503599627370496 - 1075) * KK := by
  have hP : PP b = b / 4503599627370496 - 1 := rfl
  unfold MM
  obtain ⟨n, hn⟩ : ∃ n, n = 1074 := ⟨_, rfl⟩
  rw [KK_pow hn, Nat.mul_assoc, ← Nat.pow_add, show b / 4503599627370496 - 1075 + n = PP b by omega]
theorem stp_big {b : Nat} (h0 : 4841369599423283200 ≤ b) : stp b = DD b * 2 ^ (b / 4503599627370496 - 1075) := by
  unfold stp
  rw [big_eq h0, Nat.mul_div_cancel _ KK_pos]
theorem flo_stp {b : Nat} (hb : b < 9218868437227405312) : flo (stp b) < 9218868437227405312 ∧ MM (flo (stp b)) = stp b * KK := by
  rcases Nat.le_total b 4845873199050653696 with h | h
  · obtain ⟨h1, h2⟩ := flo_ok (stp_le h)
    exact ⟨by omega, h2⟩
  · have e := big_eq (b := b) (by omega)
    have e2 := stp_big (b := b) (by omega)
    have e3 : flo (stp b) = b := by
      have := nearest_of (N := stp b) (P := 1074) (s := b) (by omega) hb (by rw [e, e2, KK_pow (n := 1074) rfl])
      exact this
    rw [e3]
    exact ⟨hb, by rw [e, e2]⟩
theorem floor_num (b : Nat) : (Datum.number false (DD b) (-1074 + (PP b : Int))).integral .down = .number false (stp b) 0 := by
  unfold Datum.integral
  simp only
  rw [cut_eq _ _ _ (.inl rfl)]
  congr 1
  unfold stp MM
  rw [Nat.shiftLeft_eq]
  obtain ⟨n, hn⟩ : ∃ n, n = 1074 := ⟨_, rfl⟩
  rcases Nat.le_total n (PP b) with h | h
  · rw [show (-1074 + (PP b : Int)).toNat = PP b - n by omega, show (-(-1074 + (PP b : Int))).toNat = 0 by omega, Nat.pow_zero, Nat.div_one, KK_pow hn]
    have e : DD b * 2 ^ PP b = DD b * 2 ^ (PP b - n) * 2 ^ n := by rw [Nat.mul_assoc, ← Nat.pow_add, Nat.sub_add_cancel h]
    rw [e, Nat.mul_div_cancel _ (Nat.two_pow_pos _)]
  · rw [show (-1074 + (PP b : Int)).toNat = 0 by omega, show (-(-1074 + (PP b : Int))).toNat = n - PP b by omega, Nat.pow_zero, Nat.mul_one,
      KK_split (i := n - PP b) (j := PP b) (by omega), Nat.mul_div_mul_right _ _ (Nat.two_pow_pos _)]
/-- What remains at the end is the whole part's remainder. -/
theorem rest_eq {r x y W n : Nat} (hn1 : 1 ≤ n) (hn : n ≤ 1048576) (hx : MM x = W * KK) (hy : MM y = n * KK) (h : MM r % MM y = MM x % MM y) (hr : r < y) : r = flo (W % n) := by
  have hlt := MM_lt hr
  rw [Nat.mod_eq_of_lt hlt, hx, hy, Nat.mul_mod_mul_right] at h
  have hm : W % n < n := Nat.mod_lt _ (by omega)
  have hf := (flo_ok (n := W % n) (by omega)).2
  exact MM_inj.1 (h.trans hf.symm)
theorem flo_low {n : Nat} (hn1 : 1 ≤ n) (hn : n ≤ 1048576) : 4607182418800017408 ≤ flo n ∧ flo n ≤ 4845873199050653696 := by
  obtain ⟨h1, h2⟩ := flo_ok (n := n) (by omega)
  refine ⟨?_, h1⟩
  rcases Nat.lt_or_ge (flo n) 4607182418800017408 with g | g
  · have := MM_lt g
    rw [MM_one, h2] at this
    have := Nat.mul_le_mul_right KK hn1
    omega
  · exact g
end Go.Proofs.Ytdhooabamoehiaa
