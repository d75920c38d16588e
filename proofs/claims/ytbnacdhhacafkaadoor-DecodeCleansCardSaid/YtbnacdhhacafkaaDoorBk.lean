/- What follows of immediates: Get of Put, Put of Get, and bits that no immediate has. Nothing here speaks of a program. -/
import Derived.Test.YtbnacdhhacafkaaDoorCf
import Derived.Test.YtbnacdhhacafkaaDoorMy
namespace Go.Proofs.YtbnacdhhacafkaaDoor
open Go.RowKit

theorem and_fld (w b n : Nat) : w &&& ((2 ^ n - 1) * 2 ^ b) = w / 2 ^ b % 2 ^ n * 2 ^ b := by
  apply Nat.eq_of_testBit_eq
  intro i
  rw [Nat.testBit_and, Nat.testBit_mul_two_pow, Nat.testBit_mul_two_pow, Nat.testBit_two_pow_sub_one, Nat.testBit_mod_two_pow, Nat.testBit_div_two_pow]
  by_cases h : b ≤ i
  · rw [Nat.sub_add_cancel h]; simp [h]; rw [Bool.and_comm]
  · simp [h]

theorem join25 {p q : Nat} (h : q < 33554432) : p * 33554432 ||| q = p * 33554432 + q :=
  nat_join 25 _ _ (by rw [show (2 : Nat) ^ 25 = 33554432 by decide]; exact Nat.mul_mod_left _ _) (by rw [show (2 : Nat) ^ 25 = 33554432 by decide]; exact h)
theorem join12 {p q : Nat} (h : q < 4096) : p * 4096 ||| q = p * 4096 + q :=
  nat_join 12 _ _ (by rw [show (2 : Nat) ^ 12 = 4096 by decide]; exact Nat.mul_mod_left _ _) (by rw [show (2 : Nat) ^ 12 = 4096 by decide]; exact h)
/-- The bits that an immediate has, and those that none has. -/
def keepB (f : Nat) (w : Int) : Int := if f = 1 then w / 1048576 * 1048576 else if f = 2 ∨ f = 3 then w / 33554432 * 33554432 + w / 128 % 32 * 128 else w / 4096 * 4096
def restB (f : Nat) (o : Int) : Int := if f = 1 then o % 1048576 else if f = 2 ∨ f = 3 then o / 4096 % 8192 * 4096 + o % 128 else o % 4096

theorem nand1 {w : Nat} (h : w < 4294967296) : w &&& 4293918720 = w / 1048576 * 1048576 := by
  have := and_fld w 20 12
  rw [show (2 ^ 12 - 1) * 2 ^ 20 = 4293918720 by decide, show (2 : Nat) ^ 20 = 1048576 by decide, show (2 : Nat) ^ 12 = 4096 by decide] at this
  rw [this]
  clear this
  omega
theorem nand2 {w : Nat} (h : w < 4294967296) : w &&& 4261416832 = w / 33554432 * 33554432 + w / 128 % 32 * 128 := by
  have h1 := and_fld w 25 7
  have h2 := and_fld w 7 5
  rw [show (2 ^ 7 - 1) * 2 ^ 25 = 4261412864 by decide, show (2 : Nat) ^ 25 = 33554432 by decide, show (2 : Nat) ^ 7 = 128 by decide] at h1
  rw [show (2 ^ 5 - 1) * 2 ^ 7 = 3968 by decide, show (2 : Nat) ^ 7 = 128 by decide, show (2 : Nat) ^ 5 = 32 by decide] at h2
  have h3 : (4261416832 : Nat) = 4261412864 ||| 3968 := by decide
  have h4 : w / 33554432 % 128 = w / 33554432 := by omega
  have h5 : w &&& 4261416832 = w &&& (4261412864 ||| 3968) := by rw [← h3]
  rw [h5, Nat.and_or_distrib_left, h1, h2, h4]
  exact join25 (by omega)
theorem nand4 {w : Nat} (h : w < 4294967296) : w &&& 4294963200 = w / 4096 * 4096 := by
  have := and_fld w 12 20
  rw [show (2 ^ 20 - 1) * 2 ^ 12 = 4294963200 by decide, show (2 : Nat) ^ 20 = 1048576 by decide, show (2 : Nat) ^ 12 = 4096 by decide] at this
  rw [this]
  clear this
  omega
theorem nrest2 {w : Nat} (_ : w < 4294967296) : w &&& 33550463 = w / 4096 % 8192 * 4096 + w % 128 := by
  have h1 := and_fld w 12 13
  have h2 := and_fld w 0 7
  rw [show (2 ^ 13 - 1) * 2 ^ 12 = 33550336 by decide, show (2 : Nat) ^ 13 = 8192 by decide, show (2 : Nat) ^ 12 = 4096 by decide] at h1
  rw [show (2 ^ 7 - 1) * 2 ^ 0 = 127 by decide, show (2 : Nat) ^ 7 = 128 by decide, Nat.pow_zero, Nat.div_one, Nat.mul_one] at h2
  have h3 : (33550463 : Nat) = 33550336 ||| 127 := by decide
  have h5 : w &&& 33550463 = w &&& (33550336 ||| 127) := by rw [← h3]
  rw [h5, Nat.and_or_distrib_left, h1, h2]
  exact join12 (by omega)

theorem fmt5 {f : Nat} (h1 : 1 ≤ f) (h2 : f ≤ 5) : f = 1 ∨ f = 2 ∨ f = 3 ∨ f = 4 ∨ f = 5 := by omega
theorem and_mask {f : Nat} (h1 : 1 ≤ f) (h2 : f ≤ 5) {w : Int} (w0 : 0 ≤ w) (w1 : w < 4294967296) : bits .and .u32 w (mskK f 32) = keepB f w := by
  obtain ⟨W, rfl⟩ := Int.eq_ofNat_of_zero_le w0
  have hW : W < 4294967296 := by omega
  unfold keepB
  rcases fmt5 h1 h2 with rfl | rfl | rfl | rfl | rfl
  · have e := nand1 hW
    rw [show mskK (1 : Nat) 32 = ((4293918720 : Nat) : Int) from msk1, u32_and_nat W _ hW (by decide), if_pos rfl]; omega
  · have e := nand2 hW
    rw [show mskK (2 : Nat) 32 = ((4261416832 : Nat) : Int) from msk2, u32_and_nat W _ hW (by decide), if_neg (by decide), if_pos (by decide)]; omega
  · have e := nand2 hW
    rw [show mskK (3 : Nat) 32 = ((4261416832 : Nat) : Int) from msk3, u32_and_nat W _ hW (by decide), if_neg (by decide), if_pos (by decide)]; omega
  · have e := nand4 hW
    rw [show mskK (4 : Nat) 32 = ((4294963200 : Nat) : Int) from msk4, u32_and_nat W _ hW (by decide), if_neg (by decide), if_neg (by decide)]; omega
  · have e := nand4 hW
    rw [show mskK (5 : Nat) 32 = ((4294963200 : Nat) : Int) from msk5, u32_and_nat W _ hW (by decide), if_neg (by decide), if_neg (by decide)]; omega
theorem not_mask {f : Nat} (h1 : 1 ≤ f) (h2 : f ≤ 5) {w : Int} (w0 : 0 ≤ w) (w1 : w < 4294967296) : bits .andNot .u32 w (mskK f 32) = restB f w := by
  obtain ⟨W, rfl⟩ := Int.eq_ofNat_of_zero_le w0
  have hW : W < 4294967296 := by omega
  unfold restB
  rcases fmt5 h1 h2 with rfl | rfl | rfl | rfl | rfl
  · rw [show mskK (1 : Nat) 32 = ((4293918720 : Nat) : Int) from msk1, u32_andNot_nat W _ hW (by decide), if_pos rfl, show 4294967295 - 4293918720 = 2 ^ 20 - 1 by decide, Nat.and_two_pow_sub_one_eq_mod]; omega
  · have e := nrest2 hW
    rw [show mskK (2 : Nat) 32 = ((4261416832 : Nat) : Int) from msk2, u32_andNot_nat W _ hW (by decide), if_neg (by decide), if_pos (by decide), show 4294967295 - 4261416832 = 33550463 by decide]; omega
  · have e := nrest2 hW
    rw [show mskK (3 : Nat) 32 = ((4261416832 : Nat) : Int) from msk3, u32_andNot_nat W _ hW (by decide), if_neg (by decide), if_pos (by decide), show 4294967295 - 4261416832 = 33550463 by decide]; omega
  · rw [show mskK (4 : Nat) 32 = ((4294963200 : Nat) : Int) from msk4, u32_andNot_nat W _ hW (by decide), if_neg (by decide), if_neg (by decide), show 4294967295 - 4294963200 = 2 ^ 12 - 1 by decide, Nat.and_two_pow_sub_one_eq_mod]; omega
  · rw [show mskK (5 : Nat) 32 = ((4294963200 : Nat) : Int) from msk5, u32_andNot_nat W _ hW (by decide), if_neg (by decide), if_neg (by decide), show 4294967295 - 4294963200 = 2 ^ 12 - 1 by decide, Nat.and_two_pow_sub_one_eq_mod]; omega

/-- Fields apart: a word that is made of them has them. -/
theorem gp2 {x a b : Int} (ha : 0 ≤ a ∧ a < 32) (hb : 0 ≤ b ∧ b < 128) (hx : x = a + 32 * b - 4096 * (b / 64)) {P : Int} (hP : P = a * 128 + b * 33554432) :
    P / 128 % 32 + P / 33554432 % 64 * 32 - P / 2147483648 % 2 * 2048 = x ∧ P / 4096 % 8192 * 4096 + P % 128 = 0 := by
  have e1 : P / 128 % 32 = a := by omega
  have e2 : P / 33554432 % 64 = b % 64 := by omega
  have e3 : P / 2147483648 % 2 = b / 64 := by omega
  have e4 : P / 4096 % 8192 = 0 := by omega
  have e5 : P % 128 = 0 := by omega
  rw [e1, e2, e3, e4, e5]; constructor <;> omega
theorem gp3 {x a b c d : Int} (ha : 0 ≤ a ∧ a < 2) (hb : 0 ≤ b ∧ b < 16) (hc : 0 ≤ c ∧ c < 64) (hd : 0 ≤ d ∧ d < 2) (hx : x = a * 2048 + b * 2 + c * 32 - d * 4096) {P : Int} (hP : P = a * 128 + b * 256 + c * 33554432 + d * 2147483648) :
    P / 128 % 2 * 2048 + P / 256 % 16 * 2 + P / 33554432 % 64 * 32 - P / 2147483648 % 2 * 4096 = x ∧ P / 4096 % 8192 * 4096 + P % 128 = 0 := by
  have e1 : P / 128 % 2 = a := by omega
  have e2 : P / 256 % 16 = b := by omega
  have e3 : P / 33554432 % 64 = c := by omega
  have e6 : P / 2147483648 % 2 = d := by omega
  have e4 : P / 4096 % 8192 = 0 := by omega
  have e5 : P % 128 = 0 := by omega
  rw [e1, e2, e3, e4, e5, e6]; constructor <;> omega
theorem gp5 {x a b c d : Int} (ha : 0 ≤ a ∧ a < 256) (hb : 0 ≤ b ∧ b < 2) (hc : 0 ≤ c ∧ c < 1024) (hd : 0 ≤ d ∧ d < 2) (hx : x = a * 4096 + b * 2048 + c * 2 - d * 1048576) {P : Int} (hP : P = a * 4096 + b * 1048576 + c * 2097152 + d * 2147483648) :
    P / 4096 % 256 * 4096 + P / 1048576 % 2 * 2048 + P / 2097152 % 1024 * 2 - P / 2147483648 % 2 * 1048576 = x ∧ P % 4096 = 0 := by
  have e1 : P / 4096 % 256 = a := by omega
  have e2 : P / 1048576 % 2 = b := by omega
  have e3 : P / 2097152 % 1024 = c := by omega
  have e6 : P / 2147483648 % 2 = d := by omega
  have e5 : P % 4096 = 0 := by omega
  rw [e1, e2, e3, e5, e6]; constructor <;> omega
/-- A number by its sign and the rest. -/
theorem sign_part {x : Int} (m : Int) (hm : 0 < m) (h0 : -m ≤ x) (h1 : x < m) (hM : m ≤ 2147483648) : ∃ q t : Int, (0 ≤ q ∧ q < 2) ∧ (0 ≤ t ∧ t < m) ∧ x = t - m * q ∧ x % 18446744073709551616 = t + (18446744073709551616 - m) * q := by
  by_cases hneg : x < 0
  · exact ⟨1, x + m, by omega, by omega, by omega, by omega⟩
  · exact ⟨0, x, by omega, by omega, by omega, by omega⟩
theorem gpx1 {x : Int} (h0 : -2048 ≤ x) (h1 : x < 2048) : getK 1 (putK 1 (x % 18446744073709551616) 32) 32 = x ∧ putK 1 (x % 18446744073709551616) 32 % 1048576 = 0 := by
  obtain ⟨q, t, hq, ht, hx, hu⟩ := sign_part 2048 (by decide) h0 h1 (by decide)
  rw [hu]
  have hp := (putK_range 1 (t + (18446744073709551616 - 2048) * q) 32).1
  have e := put1 (u := t + (18446744073709551616 - 2048) * q) (by omega)
  have u1 : (t + (18446744073709551616 - 2048) * q) % 4096 = t + 2048 * q := by omega
  rw [u1] at e
  have g := get1 hp
  generalize putK 1 (t + (18446744073709551616 - 2048) * q) 32 = P at *
  rw [g]
  clear g u1 hu h0 h1 hp
  have e1 : P / 1048576 % 2048 = t := by omega
  have e2 : P / 2147483648 % 2 = q := by omega
  rw [e1, e2]
  constructor <;> omega
theorem gpx2 {x : Int} (h0 : -2048 ≤ x) (h1 : x < 2048) : getK 2 (putK 2 (x % 18446744073709551616) 32) 32 = x ∧ putK 2 (x % 18446744073709551616) 32 / 4096 % 8192 * 4096 + putK 2 (x % 18446744073709551616) 32 % 128 = 0 := by
  obtain ⟨q, t, hq, ht, hx, hu⟩ := sign_part 2048 (by decide) h0 h1 (by decide)
  rw [hu]
  have hp := (putK_range 2 (t + (18446744073709551616 - 2048) * q) 32).1
  have e := put2 (u := t + (18446744073709551616 - 2048) * q) (by omega)
  have u1 : (t + (18446744073709551616 - 2048) * q) % 32 = t % 32 := by omega
  have u2 : (t + (18446744073709551616 - 2048) * q) / 32 % 128 = t / 32 + 64 * q := by omega
  rw [u1, u2] at e
  have g := get2 hp
  generalize putK 2 (t + (18446744073709551616 - 2048) * q) 32 = P at *
  rw [g]
  clear g u1 u2 hu h0 h1 hp
  exact gp2 (by omega) (by omega) (by omega) e
theorem gpx3 {x : Int} (h0 : -4096 ≤ x) (h1 : x < 4096) (h2 : x % 2 = 0) : getK 3 (putK 3 (x % 18446744073709551616) 32) 32 = x ∧ putK 3 (x % 18446744073709551616) 32 / 4096 % 8192 * 4096 + putK 3 (x % 18446744073709551616) 32 % 128 = 0 := by
  obtain ⟨q, t, hq, ht, hx, hu⟩ := sign_part 4096 (by decide) h0 h1 (by decide)
  obtain ⟨s, rfl⟩ : ∃ s, t = 2 * s := ⟨t / 2, by omega⟩
  rw [hu]
  have hp := (putK_range 3 (2 * s + (18446744073709551616 - 4096) * q) 32).1
  have e := put3 (u := 2 * s + (18446744073709551616 - 4096) * q) (by omega)
  have u1 : (2 * s + (18446744073709551616 - 4096) * q) / 2048 % 2 = s / 1024 := by omega
  have u2 : (2 * s + (18446744073709551616 - 4096) * q) / 2 % 16 = s % 16 := by omega
  have u3 : (2 * s + (18446744073709551616 - 4096) * q) / 32 % 64 = s / 16 % 64 := by omega
  have u4 : (2 * s + (18446744073709551616 - 4096) * q) / 4096 % 2 = q := by omega
  rw [u1, u2, u3, u4] at e
  have g := get3 hp
  generalize putK 3 (2 * s + (18446744073709551616 - 4096) * q) 32 = P at *
  rw [g]
  clear g u1 u2 u3 u4 hu h0 h1 h2 hp
  exact gp3 (by omega) (by omega) (by omega) hq (by omega) e
theorem gpx4 {x : Int} (h0 : -2147483648 ≤ x) (h1 : x < 2147483648) (h2 : x % 4096 = 0) : getK 4 (putK 4 (x % 18446744073709551616) 32) 32 = x ∧ putK 4 (x % 18446744073709551616) 32 % 4096 = 0 := by
  obtain ⟨q, t, hq, ht, hx, hu⟩ := sign_part 2147483648 (by decide) h0 h1 (by decide)
  obtain ⟨s, rfl⟩ : ∃ s, t = 4096 * s := ⟨t / 4096, by omega⟩
  rw [hu]
  have hp := (putK_range 4 (4096 * s + (18446744073709551616 - 2147483648) * q) 32).1
  have e := put4 (u := 4096 * s + (18446744073709551616 - 2147483648) * q) (by omega)
  have u1 : (4096 * s + (18446744073709551616 - 2147483648) * q) / 4096 % 1048576 = s + 524288 * q := by omega
  rw [u1] at e
  have g := get4 hp
  generalize putK 4 (4096 * s + (18446744073709551616 - 2147483648) * q) 32 = P at *
  rw [g]
  clear g u1 hu h0 h1 h2 hp
  have e1 : P / 4096 % 524288 = s := by omega
  have e2 : P / 2147483648 % 2 = q := by omega
  rw [e1, e2]
  constructor <;> omega
theorem gpx5 {x : Int} (h0 : -1048576 ≤ x) (h1 : x < 1048576) (h2 : x % 2 = 0) : getK 5 (putK 5 (x % 18446744073709551616) 32) 32 = x ∧ putK 5 (x % 18446744073709551616) 32 % 4096 = 0 := by
  obtain ⟨q, t, hq, ht, hx, hu⟩ := sign_part 1048576 (by decide) h0 h1 (by decide)
  obtain ⟨s, rfl⟩ : ∃ s, t = 2 * s := ⟨t / 2, by omega⟩
  rw [hu]
  have hp := (putK_range 5 (2 * s + (18446744073709551616 - 1048576) * q) 32).1
  have e := put5 (u := 2 * s + (18446744073709551616 - 1048576) * q) (by omega)
  have u1 : (2 * s + (18446744073709551616 - 1048576) * q) / 4096 % 256 = s / 2048 := by omega
  have u2 : (2 * s + (18446744073709551616 - 1048576) * q) / 2048 % 2 = s / 1024 % 2 := by omega
  have u3 : (2 * s + (18446744073709551616 - 1048576) * q) / 2 % 1024 = s % 1024 := by omega
  have u4 : (2 * s + (18446744073709551616 - 1048576) * q) / 1048576 % 2 = q := by omega
  rw [u1, u2, u3, u4] at e
  have g := get5 hp
  generalize putK 5 (2 * s + (18446744073709551616 - 1048576) * q) 32 = P at *
  rw [g]
  clear g u1 u2 u3 u4 hu h0 h1 h2 hp
  exact gp5 (by omega) (by omega) (by omega) hq (by omega) e

theorem neg_mod {t q m : Int} (hq : 0 ≤ q ∧ q < 2) (ht : 0 ≤ t ∧ t < m) (hm : m ≤ 2147483648) {x : Int} (hx : x = t - m * q) : x % 18446744073709551616 = t + (18446744073709551616 - m) * q := by
  have h : q = 0 ∨ q = 1 := by omega
  rcases h with rfl | rfl <;> omega
theorem pgx1 {w : Int} (w0 : 0 ≤ w) (w1 : w < 4294967296) : (-2048 ≤ getK 1 w 32 ∧ getK 1 w 32 ≤ 2047) ∧ putK 1 (getK 1 w 32 % 18446744073709551616) 32 = w / 1048576 * 1048576 := by
  have g := get1 w0
  obtain ⟨v, hv⟩ : ∃ v, w / 1048576 = v := ⟨_, rfl⟩
  have hv0 : 0 ≤ v ∧ v < 4096 := by omega
  have e2 : w / 2147483648 % 2 = v / 2048 := by omega
  rw [hv] at g ⊢
  rw [e2] at g
  clear e2 hv w0 w1
  generalize getK 1 w 32 = x at *
  have hu := neg_mod (t := v % 2048) (q := v / 2048) (m := 2048) (by omega) (by omega) (by decide) (x := x) (by omega)
  have e := put1 (u := x % 18446744073709551616) (by omega)
  have e3 : x % 18446744073709551616 % 4096 = v := by omega
  rw [e3] at e
  exact ⟨by omega, e⟩
theorem pgx2 {w : Int} (w0 : 0 ≤ w) (w1 : w < 4294967296) : (-2048 ≤ getK 2 w 32 ∧ getK 2 w 32 ≤ 2047) ∧ putK 2 (getK 2 w 32 % 18446744073709551616) 32 = w / 33554432 * 33554432 + w / 128 % 32 * 128 := by
  have g := get2 w0
  obtain ⟨b, hb⟩ : ∃ b, w / 33554432 = b := ⟨_, rfl⟩
  have hb0 : 0 ≤ b ∧ b < 128 := by omega
  have e2 : w / 2147483648 % 2 = b / 64 := by omega
  obtain ⟨a, ha⟩ : ∃ a, w / 128 % 32 = a := ⟨_, rfl⟩
  have ha0 : 0 ≤ a ∧ a < 32 := by omega
  rw [hb, ha] at g ⊢
  rw [e2] at g
  clear e2 hb ha w0 w1
  generalize getK 2 w 32 = x at *
  have hu := neg_mod (t := a + b % 64 * 32) (q := b / 64) (m := 2048) (by omega) (by omega) (by decide) (x := x) (by omega)
  have e := put2 (u := x % 18446744073709551616) (by omega)
  rw [hu] at e ⊢
  clear hu
  have e3 : (a + b % 64 * 32 + (18446744073709551616 - 2048) * (b / 64)) % 32 = a := by omega
  have e4 : (a + b % 64 * 32 + (18446744073709551616 - 2048) * (b / 64)) / 32 % 128 = b := by omega
  rw [e3, e4] at e
  exact ⟨by omega, by omega⟩
theorem pgx3 {w : Int} (w0 : 0 ≤ w) (w1 : w < 4294967296) : (-4096 ≤ getK 3 w 32 ∧ getK 3 w 32 ≤ 4095 ∧ getK 3 w 32 % 2 = 0) ∧ putK 3 (getK 3 w 32 % 18446744073709551616) 32 = w / 33554432 * 33554432 + w / 128 % 32 * 128 := by
  have g := get3 w0
  have k1 : w / 33554432 = w / 33554432 % 64 + 64 * (w / 2147483648 % 2) := by omega
  have k2 : w / 128 % 32 = w / 128 % 2 + 2 * (w / 256 % 16) := by omega
  rw [k1, k2]
  clear k1 k2
  obtain ⟨a, ha⟩ : ∃ a, w / 128 % 2 = a := ⟨_, rfl⟩
  obtain ⟨b, hb⟩ : ∃ b, w / 256 % 16 = b := ⟨_, rfl⟩
  obtain ⟨c, hc⟩ : ∃ c, w / 33554432 % 64 = c := ⟨_, rfl⟩
  obtain ⟨q, hq⟩ : ∃ q, w / 2147483648 % 2 = q := ⟨_, rfl⟩
  have ha0 : 0 ≤ a ∧ a < 2 := by omega
  have hb0 : 0 ≤ b ∧ b < 16 := by omega
  have hc0 : 0 ≤ c ∧ c < 64 := by omega
  have hq0 : 0 ≤ q ∧ q < 2 := by omega
  rw [ha, hb, hc, hq] at g ⊢
  clear ha hb hc hq w0 w1
  generalize getK 3 w 32 = x at *
  have hu := neg_mod (t := a * 2048 + b * 2 + c * 32) (q := q) (m := 4096) hq0 (by omega) (by decide) (x := x) (by omega)
  have e := put3 (u := x % 18446744073709551616) (by omega)
  rw [hu] at e ⊢
  clear hu
  have e3 : (a * 2048 + b * 2 + c * 32 + (18446744073709551616 - 4096) * q) / 2048 % 2 = a := by omega
  have e4 : (a * 2048 + b * 2 + c * 32 + (18446744073709551616 - 4096) * q) / 2 % 16 = b := by omega
  have e5 : (a * 2048 + b * 2 + c * 32 + (18446744073709551616 - 4096) * q) / 32 % 64 = c := by omega
  have e6 : (a * 2048 + b * 2 + c * 32 + (18446744073709551616 - 4096) * q) / 4096 % 2 = q := by omega
  rw [e3, e4, e5, e6] at e
  clear e3 e4 e5 e6
  exact ⟨by omega, by omega⟩
theorem pgx4 {w : Int} (w0 : 0 ≤ w) (w1 : w < 4294967296) : (-2147483648 ≤ getK 4 w 32 ∧ getK 4 w 32 ≤ 2147483647 ∧ getK 4 w 32 % 4096 = 0) ∧ putK 4 (getK 4 w 32 % 18446744073709551616) 32 = w / 4096 * 4096 := by
  have g := get4 w0
  obtain ⟨v, hv⟩ : ∃ v, w / 4096 = v := ⟨_, rfl⟩
  have hv0 : 0 ≤ v ∧ v < 1048576 := by omega
  have e2 : w / 2147483648 % 2 = v / 524288 := by omega
  rw [hv] at g ⊢
  rw [e2] at g
  clear e2 hv w0 w1
  generalize getK 4 w 32 = x at *
  have hu := neg_mod (t := v % 524288 * 4096) (q := v / 524288) (m := 2147483648) (by omega) (by omega) (by decide) (x := x) (by omega)
  have e := put4 (u := x % 18446744073709551616) (by omega)
  rw [hu] at e ⊢
  clear hu
  have e3 : (v % 524288 * 4096 + (18446744073709551616 - 2147483648) * (v / 524288)) / 4096 % 1048576 = v := by omega
  rw [e3] at e
  exact ⟨by omega, e⟩
theorem pgx5 {w : Int} (w0 : 0 ≤ w) (w1 : w < 4294967296) : (-1048576 ≤ getK 5 w 32 ∧ getK 5 w 32 ≤ 1048575 ∧ getK 5 w 32 % 2 = 0) ∧ putK 5 (getK 5 w 32 % 18446744073709551616) 32 = w / 4096 * 4096 := by
  have g := get5 w0
  have k1 : w / 4096 * 4096 = w / 4096 % 256 * 4096 + w / 1048576 % 2 * 1048576 + w / 2097152 % 1024 * 2097152 + w / 2147483648 % 2 * 2147483648 := by omega
  rw [k1]
  clear k1
  obtain ⟨a, ha⟩ : ∃ a, w / 4096 % 256 = a := ⟨_, rfl⟩
  obtain ⟨b, hb⟩ : ∃ b, w / 1048576 % 2 = b := ⟨_, rfl⟩
  obtain ⟨c, hc⟩ : ∃ c, w / 2097152 % 1024 = c := ⟨_, rfl⟩
  obtain ⟨q, hq⟩ : ∃ q, w / 2147483648 % 2 = q := ⟨_, rfl⟩
  have ha0 : 0 ≤ a ∧ a < 256 := by omega
  have hb0 : 0 ≤ b ∧ b < 2 := by omega
  have hc0 : 0 ≤ c ∧ c < 1024 := by omega
  have hq0 : 0 ≤ q ∧ q < 2 := by omega
  rw [ha, hb, hc, hq] at g ⊢
  clear ha hb hc hq w0 w1
  generalize getK 5 w 32 = x at *
  have hu := neg_mod (t := a * 4096 + b * 2048 + c * 2) (q := q) (m := 1048576) hq0 (by omega) (by decide) (x := x) (by omega)
  have e := put5 (u := x % 18446744073709551616) (by omega)
  rw [hu] at e ⊢
  clear hu
  have e3 : (a * 4096 + b * 2048 + c * 2 + (18446744073709551616 - 1048576) * q) / 4096 % 256 = a := by omega
  have e4 : (a * 4096 + b * 2048 + c * 2 + (18446744073709551616 - 1048576) * q) / 2048 % 2 = b := by omega
  have e5 : (a * 4096 + b * 2048 + c * 2 + (18446744073709551616 - 1048576) * q) / 2 % 1024 = c := by omega
  have e6 : (a * 4096 + b * 2048 + c * 2 + (18446744073709551616 - 1048576) * q) / 1048576 % 2 = q := by omega
  rw [e3, e4, e5, e6] at e
  clear e3 e4 e5 e6
  exact ⟨by omega, by omega⟩

theorem or_disj {x y : Nat} (hx : x < 4294967296) (hy : y < 4294967296) (h : x &&& y = 0) : x ||| y = x + y := by
  have hz : BitVec.ofNat 64 x &&& BitVec.ofNat 64 y = 0#64 := by
    apply BitVec.eq_of_toNat_eq
    rw [BitVec.toNat_and, BitVec.toNat_ofNat, BitVec.toNat_ofNat, Nat.mod_eq_of_lt (by omega), Nat.mod_eq_of_lt (by omega), h]; rfl
  have := congrArg BitVec.toNat (BitVec.add_eq_or_of_and_eq_zero _ _ hz)
  rw [BitVec.toNat_add, BitVec.toNat_or, BitVec.toNat_ofNat, BitVec.toNat_ofNat, Nat.mod_eq_of_lt (a := x) (by omega), Nat.mod_eq_of_lt (a := y) (by omega), Nat.mod_eq_of_lt (by omega)] at this
  exact this.symm
theorem or_masks {w o m m' : Nat} (hm : m < 4294967296) (hm' : m' < 4294967296) (h : m &&& m' = 0) : (w &&& m) ||| (o &&& m') = (w &&& m) + (o &&& m') := by
  refine or_disj (Nat.lt_of_le_of_lt Nat.and_le_right hm) (Nat.lt_of_le_of_lt Nat.and_le_right hm') ?_
  have e : (w &&& m) &&& (o &&& m') = (w &&& o) &&& (m &&& m') := by ac_rfl
  rw [e, h, Nat.and_zero]

theorem or_other {f : Nat} (h1 : 1 ≤ f) (h2 : f ≤ 5) {w o : Int} (w0 : 0 ≤ w) (w1 : w < 4294967296) (o0 : 0 ≤ o) (o1 : o < 4294967296) : bits .or .u32 (keepB f w) (restB f o) = keepB f w + restB f o := by
  rw [← and_mask h1 h2 w0 w1, ← not_mask h1 h2 o0 o1]
  obtain ⟨W, rfl⟩ := Int.eq_ofNat_of_zero_le w0
  obtain ⟨O, rfl⟩ := Int.eq_ofNat_of_zero_le o0
  obtain ⟨M, hM, hM2, hM3⟩ : ∃ M : Nat, mskK f 32 = (M : Int) ∧ M < 4294967296 ∧ M &&& (4294967295 - M) = 0 := by
    rcases fmt5 h1 h2 with rfl | rfl | rfl | rfl | rfl
    · exact ⟨4293918720, msk1, by decide, by decide⟩
    · exact ⟨4261416832, msk2, by decide, by decide⟩
    · exact ⟨4261416832, msk3, by decide, by decide⟩
    · exact ⟨4294963200, msk4, by decide, by decide⟩
    · exact ⟨4294963200, msk5, by decide, by decide⟩
  have hW : W < 4294967296 := by omega
  have hO : O < 4294967296 := by omega
  have hM4 : 4294967295 - M < 4294967296 := by omega
  rw [hM, u32_and_nat W M hW hM2, u32_andNot_nat O M hO hM2,
    u32_or_nat _ _ (Nat.lt_of_le_of_lt Nat.and_le_right hM2) (Nat.lt_of_le_of_lt Nat.and_le_right hM4), or_masks hM2 hM4 hM3, Int.natCast_add]
theorem get_other {f : Nat} (h1 : 1 ≤ f) (h2 : f ≤ 5) {w o : Int} (w0 : 0 ≤ w) (w1 : w < 4294967296) (_ : 0 ≤ o) :
    (0 ≤ keepB f w + restB f o ∧ keepB f w + restB f o < 4294967296) ∧ getK f (keepB f w + restB f o) 32 = getK f w 32 := by
  unfold keepB restB
  rcases fmt5 h1 h2 with rfl | rfl | rfl | rfl | rfl
  · rw [if_pos rfl, if_pos rfl]
    obtain ⟨r, hr⟩ : ∃ r, w / 1048576 * 1048576 + o % 1048576 = r := ⟨_, rfl⟩
    have r0 : 0 ≤ r ∧ r < 4294967296 := by omega
    have e : r / 1048576 = w / 1048576 := by omega
    have e2 : r / 2147483648 = w / 2147483648 := by omega
    rw [hr]
    refine ⟨r0, ?_⟩
    have g1 : getK (1 : Nat) r 32 = _ := get1 r0.1
    have g2 : getK (1 : Nat) w 32 = _ := get1 w0
    rw [g1, g2, e, e2]
  · rw [if_neg (by decide), if_pos (by decide), if_neg (by decide), if_pos (by decide)]
    obtain ⟨B, hB⟩ : ∃ B, w / 33554432 = B := ⟨_, rfl⟩
    obtain ⟨A, hA⟩ : ∃ A, w / 128 % 32 = A := ⟨_, rfl⟩
    obtain ⟨C, hC⟩ : ∃ C, o / 4096 % 8192 = C := ⟨_, rfl⟩
    obtain ⟨D, hD⟩ : ∃ D, o % 128 = D := ⟨_, rfl⟩
    have b0 : 0 ≤ B ∧ B < 128 := by omega
    have a0 : 0 ≤ A ∧ A < 32 := by omega
    have c0 : 0 ≤ C ∧ C < 8192 := by omega
    have d0 : 0 ≤ D ∧ D < 128 := by omega
    have q : w / 2147483648 = B / 64 := by omega
    have g2 : getK (2 : Nat) w 32 = _ := get2 w0
    rw [g2, hB, hA, hC, hD, q]
    clear g2 hB hA hC hD q w0 w1
    obtain ⟨r, hr⟩ : ∃ r, B * 33554432 + A * 128 + (C * 4096 + D) = r := ⟨_, rfl⟩
    rw [hr]
    have r0 : 0 ≤ r ∧ r < 4294967296 := by omega
    refine ⟨r0, ?_⟩
    have e1 : r / 33554432 = B := by omega
    have e2 : r / 128 % 32 = A := by omega
    have e3 : r / 2147483648 = B / 64 := by omega
    have g1 : getK (2 : Nat) r 32 = _ := get2 r0.1
    rw [g1, e1, e2, e3]
  · rw [if_neg (by decide), if_pos (by decide), if_neg (by decide), if_pos (by decide)]
    obtain ⟨B, hB⟩ : ∃ B, w / 33554432 = B := ⟨_, rfl⟩
    obtain ⟨A, hA⟩ : ∃ A, w / 128 % 32 = A := ⟨_, rfl⟩
    obtain ⟨C, hC⟩ : ∃ C, o / 4096 % 8192 = C := ⟨_, rfl⟩
    obtain ⟨D, hD⟩ : ∃ D, o % 128 = D := ⟨_, rfl⟩
    have b0 : 0 ≤ B ∧ B < 128 := by omega
    have a0 : 0 ≤ A ∧ A < 32 := by omega
    have c0 : 0 ≤ C ∧ C < 8192 := by omega
    have d0 : 0 ≤ D ∧ D < 128 := by omega
    have q : w / 2147483648 = B / 64 := by omega
    have p1 : w / 128 % 2 = A % 2 := by omega
    have p2 : w / 256 % 16 = A / 2 := by omega
    have g2 : getK (3 : Nat) w 32 = _ := get3 w0
    rw [g2, hB, hA, hC, hD, q, p1, p2]
    clear g2 hB hA hC hD q p1 p2 w0 w1
    obtain ⟨r, hr⟩ : ∃ r, B * 33554432 + A * 128 + (C * 4096 + D) = r := ⟨_, rfl⟩
    rw [hr]
    have r0 : 0 ≤ r ∧ r < 4294967296 := by omega
    refine ⟨r0, ?_⟩
    have e1 : r / 33554432 = B := by omega
    have e2 : r / 128 % 2 = A % 2 := by omega
    have e4 : r / 256 % 16 = A / 2 := by omega
    have e3 : r / 2147483648 = B / 64 := by omega
    have g1 : getK (3 : Nat) r 32 = _ := get3 r0.1
    rw [g1, e1, e2, e3, e4]
  · rw [if_neg (by decide), if_neg (by decide), if_neg (by decide), if_neg (by decide)]
    obtain ⟨r, hr⟩ : ∃ r, w / 4096 * 4096 + o % 4096 = r := ⟨_, rfl⟩
    have r0 : 0 ≤ r ∧ r < 4294967296 := by omega
    have e : r / 4096 = w / 4096 := by omega
    have e2 : r / 2147483648 = w / 2147483648 := by omega
    rw [hr]
    refine ⟨r0, ?_⟩
    have g1 : getK (4 : Nat) r 32 = _ := get4 r0.1
    have g2 : getK (4 : Nat) w 32 = _ := get4 w0
    rw [g1, g2, e, e2]
  · rw [if_neg (by decide), if_neg (by decide), if_neg (by decide), if_neg (by decide)]
    obtain ⟨r, hr⟩ : ∃ r, w / 4096 * 4096 + o % 4096 = r := ⟨_, rfl⟩
    have r0 : 0 ≤ r ∧ r < 4294967296 := by omega
    have e : r / 4096 = w / 4096 := by omega
    have e2 : r / 2147483648 = w / 2147483648 := by omega
    have e3 : r / 1048576 = w / 1048576 := by omega
    have e4 : r / 2097152 = w / 2097152 := by omega
    rw [hr]
    refine ⟨r0, ?_⟩
    have g1 : getK (5 : Nat) r 32 = _ := get5 r0.1
    have g2 : getK (5 : Nat) w 32 = _ := get5 w0
    rw [g1, g2, e, e2, e3, e4]

/-- Get of Put is the immediate; what is put has no other bits. -/
theorem get_put {f : Nat} (h1 : 1 ≤ f) (h2 : f ≤ 5) {x : Int} (hm : May f x) : getK f (putK f (x % 18446744073709551616) 32) 32 = x ∧ restB f (putK f (x % 18446744073709551616) 32) = 0 := by
  unfold May at hm
  unfold restB
  rcases fmt5 h1 h2 with rfl | rfl | rfl | rfl | rfl
  · rw [if_pos rfl]; exact gpx1 (by omega) (by omega)
  · rw [if_neg (by decide), if_pos (by decide)]; exact gpx2 (by omega) (by omega)
  · rw [if_neg (by decide), if_pos (by decide)]; exact gpx3 (by omega) (by omega) (by omega)
  · rw [if_neg (by decide), if_neg (by decide)]; exact gpx4 (by omega) (by omega) (by omega)
  · rw [if_neg (by decide), if_neg (by decide)]; exact gpx5 (by omega) (by omega) (by omega)
/-- What is read may be put, and gives the word's own bits. -/
theorem put_get {f : Nat} (h1 : 1 ≤ f) (h2 : f ≤ 5) {w : Int} (w0 : 0 ≤ w) (w1 : w < 4294967296) : May f (getK f w 32) ∧ putK f (getK f w 32 % 18446744073709551616) 32 = keepB f w := by
  unfold May keepB
  rcases fmt5 h1 h2 with rfl | rfl | rfl | rfl | rfl
  · rw [if_pos rfl]; obtain ⟨g, e⟩ := pgx1 w0 w1; exact ⟨.inl ⟨.inl rfl, g.1, g.2⟩, e⟩
  · rw [if_neg (by decide), if_pos (by decide)]; obtain ⟨g, e⟩ := pgx2 w0 w1; exact ⟨.inl ⟨.inr rfl, g.1, g.2⟩, e⟩
  · rw [if_neg (by decide), if_pos (by decide)]; obtain ⟨g, e⟩ := pgx3 w0 w1; exact ⟨.inr (.inl ⟨rfl, g.1, g.2.1, g.2.2⟩), e⟩
  · rw [if_neg (by decide), if_neg (by decide)]; obtain ⟨g, e⟩ := pgx4 w0 w1; exact ⟨.inr (.inr (.inl ⟨rfl, g.1, g.2.1, g.2.2⟩)), e⟩
  · rw [if_neg (by decide), if_neg (by decide)]; obtain ⟨g, e⟩ := pgx5 w0 w1; exact ⟨.inr (.inr (.inr ⟨rfl, g.1, g.2.1, g.2.2⟩)), e⟩
end Go.Proofs.YtbnacdhhacafkaaDoor
