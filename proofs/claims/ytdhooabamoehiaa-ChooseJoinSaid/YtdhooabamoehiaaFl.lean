/- Floating-point words of 64 bits, as plain numbers: their order, whole ones, and the words of whole ones. Nothing here speaks of a program. -/
import Ieee.Arith
namespace Go.Proofs.Ytdhooabamoehiaa
open Ieee


def sgn (b : Nat) : Bool := decide (9223372036854775808 ≤ b)
def rng (b : Nat) : Nat := if 9223372036854775808 ≤ b then b - 9223372036854775808 else b
def nanB (b : Nat) : Bool := decide (9218868437227405312 < rng b)
/-- Where a word stands among numbers: both noughts at 0. -/
def ky (b : Nat) : Int := if 9223372036854775808 ≤ b then -(rng b : Int) else rng b
/-- Digits, place and magnitude of a rung. -/
def DD (r : Nat) : Nat := if r < 4503599627370496 then r else 4503599627370496 + r % 4503599627370496
def PP (r : Nat) : Nat := r / 4503599627370496 - 1
def MM (r : Nat) : Nat := DD r * 2 ^ PP r

theorem rng_lt {b : Nat} (h : b < 18446744073709551616) : rng b < 9223372036854775808 := by unfold rng; split <;> omega
theorem fsw : double.signWeight = 9223372036854775808 := by rfl
theorem fbb : double.binade = 4503599627370496 := by rfl
theorem finf : double.infRung = 9218868437227405312 := by rfl
theorem flp : double.leastPlace = -1074 := by rfl

theorem MM_succ (r : Nat) : MM r < MM (r + 1) := by
  unfold MM DD PP
  by_cases h1 : r + 1 < 4503599627370496
  · have e1 : r / 4503599627370496 = 0 := by omega
    have e2 : (r + 1) / 4503599627370496 = 0 := by omega
    rw [if_pos (by omega), if_pos h1, e1, e2]; simp
  · by_cases h2 : r < 4503599627370496
    · have e1 : r = 4503599627370496 - 1 := by omega
      subst e1; decide
    · have hq : 1 ≤ r / 4503599627370496 := by omega
      obtain ⟨q, eq⟩ : ∃ q, r / 4503599627370496 = q + 1 := ⟨r / 4503599627370496 - 1, by omega⟩
      rw [if_neg h2, if_neg h1]
      by_cases h3 : r % 4503599627370496 + 1 < 4503599627370496
      · have e1 : (r + 1) / 4503599627370496 = q + 1 := by omega
        have e2 : (r + 1) % 4503599627370496 = r % 4503599627370496 + 1 := by omega
        rw [eq, e1, e2]
        exact Nat.mul_lt_mul_of_pos_right (by omega) (Nat.two_pow_pos _)
      · have e1 : (r + 1) / 4503599627370496 = q + 1 + 1 := by omega
        have e2 : (r + 1) % 4503599627370496 = 0 := by omega
        have e3 : r % 4503599627370496 = 4503599627370496 - 1 := by omega
        rw [eq, e1, e2, e3]
        simp only [Nat.add_sub_cancel, Nat.pow_succ]
        have : 0 < 2 ^ q := Nat.two_pow_pos _
        omega
theorem MM_lt {r s : Nat} (h : r < s) : MM r < MM s := by
  induction h with
  | refl => exact MM_succ r
  | step _ ih => exact Nat.lt_trans ih (MM_succ _)
theorem MM_lt_iff {r s : Nat} : MM r < MM s ↔ r < s :=
  ⟨fun h => by
    rcases Nat.lt_trichotomy r s with g | g | g
    · exact g
    · subst g; omega
    · have := MM_lt g; omega, MM_lt⟩
theorem MM_inj {r s : Nat} : MM r = MM s ↔ r = s :=
  ⟨fun h => by
    rcases Nat.lt_trichotomy r s with g | g | g
    · have := MM_lt g; omega
    · exact g
    · have := MM_lt g; omega, fun h => h ▸ rfl⟩
theorem MM_zero : MM 0 = 0 := by decide

theorem read_eq {b : Nat} (h : b < 18446744073709551616) : double.read b =
    if rng b < 9218868437227405312 then .number (sgn b) (DD (rng b)) (-1074 + (PP (rng b) : Int))
    else if rng b = 9218868437227405312 then .infinity (sgn b) else .nan (sgn b) (rng b - 9218868437227405312) := by
  unfold Format.read
  rw [fsw, fbb, finf, flp]
  have e1 : (b / 9223372036854775808 % 2 == 1) = sgn b := by unfold sgn; rw [Bool.eq_iff_iff]; simp; omega
  have e2 : b % 9223372036854775808 = rng b := by unfold rng; split <;> omega
  rw [e1, e2]
  unfold DD PP
  by_cases h1 : rng b < 4503599627370496
  · have h2 : rng b < 9218868437227405312 := by omega
    have e3 : rng b / 4503599627370496 = 0 := by omega
    simp [h1, h2, e3]
  · simp [h1]

def sg (s : Bool) (n : Nat) : Int := if s then -(n : Int) else n

theorem cmp_congr {x y u v : Int} (h1 : x < y ↔ u < v) (h2 : x = y ↔ u = v) : compare x y = compare u v := by
  show compareOfLessAndEq x y = compareOfLessAndEq u v
  unfold compareOfLessAndEq
  simp [h1, h2]
theorem signed_eq (s : Bool) (m k : Nat) : signed s m k = sg s (m * 2 ^ k) := by unfold signed sg; rw [Nat.shiftLeft_eq]
theorem sg_mul (s : Bool) (n c : Nat) : sg s n * c = sg s (n * c) := by unfold sg; cases s <;> simp [Int.neg_mul]
theorem cmp_mul {x y : Int} {c : Nat} (hc : 0 < c) : compare x y = compare (x * c) (y * c) := by
  have hc' : (0 : Int) < c := by omega
  refine cmp_congr ⟨fun h => Int.mul_lt_mul_of_pos_right h hc', fun h => Int.lt_of_mul_lt_mul_right h (by omega)⟩ ⟨fun h => by rw [h], fun h => Int.eq_of_mul_eq_mul_right (by omega) h⟩

theorem order_num (s t : Bool) (r q : Nat) :
    (Datum.number s (DD r) (-1074 + (PP r : Int))).order (.number t (DD q) (-1074 + (PP q : Int))) = some (compare (sg s (MM r)) (sg t (MM q))) := by
  unfold Datum.order
  simp only [signed_eq]
  have e1 : (-1074 + (PP r : Int) - min (-1074 + (PP r : Int)) (-1074 + (PP q : Int))).toNat = PP r - min (PP r) (PP q) := by omega
  have e2 : (-1074 + (PP q : Int) - min (-1074 + (PP r : Int)) (-1074 + (PP q : Int))).toNat = PP q - min (PP r) (PP q) := by omega
  rw [e1, e2, cmp_mul (c := 2 ^ min (PP r) (PP q)) (Nat.two_pow_pos _), sg_mul, sg_mul, Nat.mul_assoc, Nat.mul_assoc, ← Nat.pow_add, ← Nat.pow_add,
    Nat.sub_add_cancel (Nat.min_le_left ..), Nat.sub_add_cancel (Nat.min_le_right ..)]
  rfl

theorem order_ky {a b : Nat} (ha : a < 18446744073709551616) (hb : b < 18446744073709551616) :
    double.order a b = if nanB a || nanB b then none else some (compare (ky a) (ky b)) := by
  have la := rng_lt ha
  have lb := rng_lt hb
  unfold Format.order
  rw [read_eq ha, read_eq hb]
  have ka : ky a = sg (sgn a) (rng a) := by unfold ky sg sgn; simp
  have kb : ky b = sg (sgn b) (rng b) := by unfold ky sg sgn; simp
  rw [ka, kb]
  unfold nanB
  generalize rng a = r at *
  generalize rng b = q at *
  generalize sgn a = s at *
  generalize sgn b = t at *
  by_cases h1 : r < 9218868437227405312
  · by_cases h2 : q < 9218868437227405312
    · rw [if_pos h1, if_pos h2, order_num, if_neg (by simp; omega)]
      refine congrArg some (cmp_congr ?_ ?_)
      · have m1 := @MM_lt_iff r q
        have m2 := @MM_lt_iff q r
        have m3 := @MM_lt_iff 0 r
        have m4 := @MM_lt_iff 0 q
        rw [MM_zero] at m3 m4
        unfold sg
        cases s <;> cases t <;> simp <;> omega
      · have m1 := @MM_inj r q
        have m3 := @MM_lt_iff 0 r
        have m4 := @MM_lt_iff 0 q
        rw [MM_zero] at m3 m4
        unfold sg
        cases s <;> cases t <;> simp <;> omega
    · by_cases h3 : q = 9218868437227405312
      · subst h3
        rw [if_pos h1, if_neg h2, if_pos rfl, if_neg (by simp; omega)]
        unfold Datum.order sg
        cases t
        · refine congrArg some ?_
          symm
          show compareOfLessAndEq _ _ = _
          unfold compareOfLessAndEq
          rw [if_pos]; rfl
          cases s <;> simp <;> omega
        · refine congrArg some ?_
          symm
          show compareOfLessAndEq _ _ = _
          unfold compareOfLessAndEq
          rw [if_neg, if_neg]; rfl
          · cases s <;> simp <;> omega
          · cases s <;> simp <;> omega
      · rw [if_pos h1, if_neg h2, if_neg h3, if_pos (by simp; omega)]
        rfl
  · by_cases h3 : r = 9218868437227405312
    · subst h3
      by_cases h2 : q < 9218868437227405312
      · rw [if_neg h1, if_pos rfl, if_pos h2, if_neg (by simp; omega)]
        unfold Datum.order sg
        cases s
        · refine congrArg some ?_
          symm
          show compareOfLessAndEq _ _ = _
          unfold compareOfLessAndEq
          rw [if_neg, if_neg]; rfl
          · cases t <;> simp <;> omega
          · cases t <;> simp <;> omega
        · refine congrArg some ?_
          symm
          show compareOfLessAndEq _ _ = _
          unfold compareOfLessAndEq
          rw [if_pos]; rfl
          cases t <;> simp <;> omega
      · by_cases h4 : q = 9218868437227405312
        · subst h4
          rw [if_neg h1, if_pos rfl, if_neg h1, if_pos rfl, if_neg (by simp)]
          cases s <;> cases t <;> rfl
        · rw [if_neg h1, if_pos rfl, if_neg h2, if_neg h4, if_pos (by simp; omega)]
          rfl
    · have e : (decide (9218868437227405312 < r) || decide (9218868437227405312 < q)) = true := by simp; omega
      rw [if_neg h1, if_neg h3, if_pos e]
      split
      · rfl
      · split <;> rfl

/-! ### The comparisons, as Bools -/
theorem cmp_lt {x y : Int} : (some (compare x y) == some Ordering.lt) = decide (x < y) := by
  show (some (compareOfLessAndEq x y) == some Ordering.lt) = _
  unfold compareOfLessAndEq
  split
  · simp [*]
  · split <;> simp [*]
theorem cmp_eq {x y : Int} : (some (compare x y) == some Ordering.eq) = decide (x = y) := by
  show (some (compareOfLessAndEq x y) == some Ordering.eq) = _
  unfold compareOfLessAndEq
  split
  · rw [Bool.eq_iff_iff]; simp; omega
  · split <;> simp [*]
theorem cmp_gt {x y : Int} : (some (compare x y) == some Ordering.gt) = decide (y < x) := by
  show (some (compareOfLessAndEq x y) == some Ordering.gt) = _
  unfold compareOfLessAndEq
  split
  · rw [Bool.eq_iff_iff]; simp; omega
  · split
    · rw [Bool.eq_iff_iff]; simp; omega
    · rw [Bool.eq_iff_iff]; simp; omega
theorem ord_lt {a b : Nat} (ha : a < 18446744073709551616) (hb : b < 18446744073709551616) :
    (double.order a b == some .lt) = (!nanB a && (!nanB b && decide (ky a < ky b))) := by
  rw [order_ky ha hb]; cases nanB a <;> cases nanB b <;> first | rfl | exact cmp_lt
theorem ord_eq {a b : Nat} (ha : a < 18446744073709551616) (hb : b < 18446744073709551616) :
    (double.order a b == some .eq) = (!nanB a && (!nanB b && decide (ky a = ky b))) := by
  rw [order_ky ha hb]; cases nanB a <;> cases nanB b <;> first | rfl | exact cmp_eq
theorem ord_gt {a b : Nat} (ha : a < 18446744073709551616) (hb : b < 18446744073709551616) :
    (double.order a b == some .gt) = (!nanB a && (!nanB b && decide (ky b < ky a))) := by
  rw [order_ky ha hb]; cases nanB a <;> cases nanB b <;> first | rfl | exact cmp_gt
theorem ord_self {a : Nat} (ha : a < 18446744073709551616) : (double.order a a != some .eq) = nanB a := by
  unfold bne; rw [ord_eq ha ha]; cases nanB a <;> simp

/-! ### Whole ones -/
/-- 2 to the n, by steps, so that it isn't worked out. -/
def pw (n : Nat) : Nat := if n = 0 then 1 else 2 * pw (n - 1)
termination_by n
theorem pw_eq (n : Nat) : pw n = 2 ^ n := by
  induction n with
  | zero => unfold pw; simp
  | succ n ih => unfold pw; rw [if_neg (by omega), Nat.add_sub_cancel, ih, Nat.pow_succ']
/-- One, counted in the least number. -/
def KK : Nat := pw 1074
theorem KK_pow {n : Nat} (h : n = 1074) : KK = 2 ^ n := by unfold KK; rw [← h]; exact pw_eq n
theorem KK_pos : 0 < KK := by
  obtain ⟨n, h⟩ : ∃ n, n = 1074 := ⟨_, rfl⟩
  rw [KK_pow h]; exact Nat.two_pow_pos _
theorem KK_split {i j : Nat} (h : i + j = 1074) : KK = 2 ^ i * 2 ^ j := by rw [KK_pow h, Nat.pow_add]
theorem KK_more {p : Nat} (h : p = 1075) : 2 ^ p = 2 * KK := by
  obtain ⟨q, rfl⟩ : ∃ q, p = q + 1 := ⟨p - 1, by omega⟩
  rw [KK_pow (n := q) (by omega), Nat.pow_succ']
/-- Is a word a step's, and whose. -/
def isS (b : Nat) : Bool := decide (b ≤ 4845873199050653696) && decide (MM b % KK = 0)
def stp (b : Nat) : Nat := MM b / KK

theorem MM_R53 : MM 4845873199050653696 = 9007199254740992 * KK := by
  have h1 : DD 4845873199050653696 = 4503599627370496 := by decide
  have h2 : PP 4845873199050653696 = 1075 := by decide
  unfold MM
  rw [h1, KK_more h2, ← Nat.mul_assoc]
theorem div_le {m K : Nat} (hp : 0 < K) (h : m ≤ 9007199254740992 * K) : m / K ≤ 9007199254740992 := by
  rw [← Nat.mul_div_cancel 9007199254740992 hp]
  exact Nat.div_le_div_right h
theorem stp_le {b : Nat} (h : b ≤ 4845873199050653696) : stp b ≤ 9007199254740992 := by
  have h1 : MM b ≤ MM 4845873199050653696 := by
    rcases Nat.lt_or_ge b 4845873199050653696 with g | g
    · exact Nat.le_of_lt (MM_lt g)
    · rw [show b = 4845873199050653696 by omega]; exact Nat.le_refl _
  rw [MM_R53] at h1
  exact div_le KK_pos h1

theorem cut_eq (n drop : Nat) (way : Toward) (hw : way = .down ∨ way = .zero) : way.cut false n drop = n / 2 ^ drop := by
  have hz : ∀ g : Nat, n / g + (false : Bool).toNat = n / g := fun _ => rfl
  have e : way.cut false n drop = n / (1 <<< min drop (n.log2 + 2)) := by
    unfold Toward.cut
    rcases hw with rfl | rfl <;> rfl
  rw [e, Nat.shiftLeft_eq, Nat.one_mul]
  rcases Nat.lt_or_ge drop (n.log2 + 2) with h | h
  · rw [Nat.min_eq_left (by omega)]
  · rw [Nat.min_eq_right h]
    have h1 : n < 2 ^ (n.log2 + 1) := Nat.lt_log2_self
    have h2 : n < 2 ^ (n.log2 + 2) := Nat.lt_of_lt_of_le h1 (Nat.pow_le_pow_right (by decide) (by omega))
    have h3 : n < 2 ^ drop := Nat.lt_of_lt_of_le h1 (Nat.pow_le_pow_right (by decide) (by omega))
    rw [Nat.div_eq_of_lt h2, Nat.div_eq_of_lt h3]

theorem div_up {d p K : Nat} (e : 2 ^ p = 2 * K) (hp : 0 < K) : d * 2 ^ p / K = d * 2 ^ 1 / 2 ^ 0 := by
  rw [e, ← Nat.mul_assoc, Nat.mul_div_cancel _ hp, Nat.pow_zero, Nat.div_one, Nat.pow_one]
theorem whole {b : Nat} (way : Toward) (hw : way = .down ∨ way = .zero) (hb : b ≤ 4845873199050653696) : (double.read b).integral way = .number false (stp b) 0 := by
  have hlt : b < 18446744073709551616 := by omega
  have e0 : rng b = b := by unfold rng; rw [if_neg]; omega
  have e1 : sgn b = false := by unfold sgn; simp; omega
  rw [read_eq hlt, e0, e1, if_pos (by omega)]
  unfold Datum.integral
  simp only
  rw [cut_eq _ _ _ hw]
  congr 1
  unfold stp MM
  have hP : PP b ≤ 1075 := by unfold PP; omega
  rw [Nat.shiftLeft_eq]
  rcases Nat.lt_or_ge 1074 (PP b) with h | h
  · have eP : PP b = 1075 := by omega
    rw [show (-1074 + (PP b : Int)).toNat = 1 by omega, show (-(-1074 + (PP b : Int))).toNat = 0 by omega]
    exact (div_up (KK_more eP) KK_pos).symm
  · rw [show (-1074 + (PP b : Int)).toNat = 0 by omega, show (-(-1074 + (PP b : Int))).toNat = 1074 - PP b by omega, Nat.pow_zero, Nat.mul_one,
      KK_split (i := 1074 - PP b) (j := PP b) (by omega), Nat.mul_div_mul_right _ _ (Nat.two_pow_pos _)]

/-- The word of a whole number. -/
def flo (n : Nat) : Nat := double.nearest false n 0
theorem flo_ok {n : Nat} (h : n ≤ 9007199254740992) : flo n ≤ 4845873199050653696 ∧ MM (flo n) = n * KK := by
  rcases Nat.lt_or_ge n 9007199254740992 with h1 | h1
  · rcases Nat.eq_zero_or_pos n with h0 | h0
    · subst h0; exact ⟨by decide, by rw [show flo 0 = 0 by decide, MM_zero]; simp⟩
    · have hl0 : 2 ^ n.log2 ≤ n := Nat.log2_self_le (by omega)
      have hl1 : n < 2 ^ (n.log2 + 1) := Nat.lt_log2_self
      have hl : n.log2 ≤ 52 := by
        rcases Nat.lt_or_ge 52 n.log2 with g | g
        · have := Nat.pow_le_pow_right (n := 2) (by decide) (show 53 ≤ n.log2 from g)
          have e : (2 : Nat) ^ 53 = 9007199254740992 := by decide
          omega
        · exact g
      have hkeep : n * 2 ^ (52 - n.log2) < 2 * 4503599627370496 ∧ 4503599627370496 ≤ n * 2 ^ (52 - n.log2) := by
        have e : 2 ^ n.log2 * 2 ^ (52 - n.log2) = 4503599627370496 := by rw [← Nat.pow_add, show n.log2 + (52 - n.log2) = 52 by omega]
        have e' : 2 ^ (n.log2 + 1) * 2 ^ (52 - n.log2) = 2 * 4503599627370496 := by rw [Nat.pow_succ, Nat.mul_assoc, Nat.mul_comm 2, ← Nat.mul_assoc, e, Nat.mul_comm]
        constructor
        · rw [← e']; exact Nat.mul_lt_mul_of_pos_right hl1 (Nat.two_pow_pos _)
        · rw [← e]; exact Nat.mul_le_mul_right _ hl0
      have hval : flo n = (n.log2 + 1022) * 4503599627370496 + n * 2 ^ (52 - n.log2) := by
        unfold flo Format.nearest
        rw [if_neg (by omega), fbb, finf, flp]
        have el : max ((0 : Int) + n.log2 - (double.fractionBits : Nat)) (-1074) = (n.log2 : Int) - 52 := by
          rw [show (double.fractionBits : Nat) = 52 from rfl]; omega
        simp only [el]
        rw [show ((0 : Int) - ((n.log2 : Int) - 52)).toNat = 52 - n.log2 by omega, show (((n.log2 : Int) - 52) - 0).toNat = 0 by omega,
          show (((n.log2 : Int) - 52) - -1074).toNat = n.log2 + 1022 by omega]
        have ec : ∀ x : Nat, Toward.even.cut false x 0 = x := fun x => by
          unfold Toward.cut
          simp [Nat.mod_one]
        rw [ec, Nat.shiftLeft_eq, Nat.min_eq_left]
        · rfl
        · have := hkeep.1
          omega
      have hd : flo n / 4503599627370496 = n.log2 + 1023 := by rw [hval]; omega
      have hm : flo n % 4503599627370496 = n * 2 ^ (52 - n.log2) - 4503599627370496 := by rw [hval]; omega
      constructor
      · rw [hval]
        have := hkeep.1
        omega
      · unfold MM DD PP
        rw [if_neg (by rw [hval]; omega), hm, hd, show 4503599627370496 + (n * 2 ^ (52 - n.log2) - 4503599627370496) = n * 2 ^ (52 - n.log2) by omega, Nat.mul_assoc,
          ← KK_split (i := 52 - n.log2) (j := n.log2 + 1023 - 1) (by omega)]
  · rw [show n = 9007199254740992 by omega, show flo 9007199254740992 = 4845873199050653696 by decide]
    exact ⟨Nat.le_refl _, MM_R53⟩
theorem mul_lt_K {m n K : Nat} (hp : 0 < K) : (m * K < n * K ↔ m < n) := ⟨fun h => Nat.lt_of_mul_lt_mul_right h, fun h => Nat.mul_lt_mul_of_pos_right h hp⟩
theorem flo_inj {m n : Nat} (hm : m ≤ 9007199254740992) (hn : n ≤ 9007199254740992) : (flo m < flo n ↔ m < n) := by
  rw [← MM_lt_iff, (flo_ok hm).2, (flo_ok hn).2]
  exact mul_lt_K KK_pos
theorem isS_flo {n : Nat} (h : n ≤ 9007199254740992) : isS (flo n) = true ∧ stp (flo n) = n := by
  obtain ⟨h1, h2⟩ := flo_ok h
  unfold isS stp
  rw [h2]
  have hp := KK_pos
  generalize KK = K at *
  exact ⟨by simp [h1], Nat.mul_div_cancel _ hp⟩
/-- A word is a step's just if it is its floor's. -/
theorem isS_floor {b : Nat} (h : b ≤ 4845873199050653696) : b = flo (stp b) ↔ isS b = true := by
  have hs := stp_le h
  rw [← MM_inj, (flo_ok hs).2]
  unfold isS stp
  have hp := KK_pos
  generalize KK = K at *
  have hd := Nat.div_add_mod (MM b) K
  rw [Nat.mul_comm] at hd
  simp [h]
  omega
end Go.Proofs.Ytdhooabamoehiaa
