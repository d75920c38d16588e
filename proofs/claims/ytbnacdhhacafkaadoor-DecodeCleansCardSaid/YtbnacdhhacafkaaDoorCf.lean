/- What is put, read and masked, in closed forms, format by format; and what follows (Get of Put, Put of Get, other bits). Nothing here speaks of a program. -/
import Derived.Test.YtbnacdhhacafkaaDoorBt
import Derived.Laws.BitsAllLaws
namespace Go.Proofs.YtbnacdhhacafkaaDoor
open Go.RowKit

theorem mod_succ (x : Int) (hx : 0 ≤ x) (k : Nat) : x % 2 ^ (k + 1) = x % 2 ^ k + x / 2 ^ k % 2 * 2 ^ k := by
  obtain ⟨a, rfl⟩ := Int.eq_ofNat_of_zero_le hx
  have h := @Nat.mod_mul (2 ^ k) 2 a
  rw [← Nat.pow_succ] at h
  have h2 : ((a % 2 ^ (k + 1) : Nat) : Int) = ((a % 2 ^ k + 2 ^ k * (a / 2 ^ k % 2) : Nat) : Int) := congrArg _ h
  simp only [Int.natCast_add, Int.natCast_mul, Int.natCast_emod, Int.natCast_ediv, Int.natCast_pow, Int.cast_ofNat_Int] at h2
  rw [h2, Int.mul_comm]
theorem div_div_p (x : Int) (_ : 0 ≤ x) (a n : Nat) : x / 2 ^ a / 2 ^ n = x / 2 ^ (a + n) := by
  rw [Int.pow_add, Int.ediv_ediv_of_nonneg (Int.le_of_lt (p2pos a))]
theorem bit_if (b c : Int) : (if b % 2 = 1 then c else 0) = b % 2 * c := by
  have : b % 2 = 0 ∨ b % 2 = 1 := by omega
  rcases this with h | h
  · rw [h, if_neg (by decide), Int.zero_mul]
  · rw [h, if_pos rfl, Int.one_mul]

section
variable {f : Int}
theorem putK_gap {u : Int} (b n : Nat) (h : ∀ i, i < n → plc f (b + i) = -1) : putK f u (b + n) = putK f u b := by
  induction n with
  | zero => rfl
  | succ n ih =>
    rw [← Nat.add_assoc, putK_succ, h n (by omega), if_neg (fun g => absurd g.1 (by decide)), Int.add_zero]
    exact ih (fun i hi => h i (by omega))
theorem getK_gap {w : Int} (b n : Nat) (h : ∀ i, i < n → plc f (b + i) = -1) : getK f w (b + n) = getK f w b := by
  induction n with
  | zero => rfl
  | succ n ih =>
    rw [← Nat.add_assoc, getK_succ, h n (by omega), if_neg (fun g => absurd g.1 (by decide)), Int.add_zero]
    exact ih (fun i hi => h i (by omega))
theorem mskK_gap (b n : Nat) (h : ∀ i, i < n → plc f (b + i) = -1) : mskK f (b + n) = mskK f b := by
  induction n with
  | zero => rfl
  | succ n ih =>
    rw [← Nat.add_assoc, mskK_succ, h n (by omega), if_neg (by decide), Int.add_zero]
    exact ih (fun i hi => h i (by omega))
theorem putK_run {u : Int} (hu : 0 ≤ u) (b n a : Nat) (h : ∀ i, i < n → plc f (b + i) = ((a + i : Nat) : Int)) : putK f u (b + n) = putK f u b + u / 2 ^ a % 2 ^ n * 2 ^ b := by
  induction n with
  | zero => rw [Int.pow_zero, Int.emod_one, Int.zero_mul, Int.add_zero]; rfl
  | succ n ih =>
    have e : (if 0 ≤ ((a + n : Nat) : Int) ∧ u / 2 ^ (a + n) % 2 = 1 then (2 : Int) ^ (b + n) else 0) = u / 2 ^ (a + n) % 2 * 2 ^ (b + n) := by
      rw [← bit_if]
      by_cases g : u / 2 ^ (a + n) % 2 = 1
      · rw [if_pos ⟨by omega, g⟩, if_pos g]
      · rw [if_neg (fun k => g k.2), if_neg g]
    rw [← Nat.add_assoc, putK_succ, h n (by omega), Int.toNat_natCast, e, ih (fun i hi => h i (by omega)), mod_succ _ (Int.ediv_nonneg hu (Int.le_of_lt (p2pos a))), div_div_p u hu]
    generalize u / 2 ^ (a + n) % 2 = B
    rw [Int.add_mul, Int.pow_add, Int.mul_assoc B, Int.mul_comm (2 ^ n)]
    omega
theorem getK_run {w : Int} (hw : 0 ≤ w) (b n a : Nat) (hb : b + n ≤ 31) (h : ∀ i, i < n → plc f (b + i) = ((a + i : Nat) : Int)) : getK f w (b + n) = getK f w b + w / 2 ^ b % 2 ^ n * 2 ^ a := by
  induction n with
  | zero => rw [Int.pow_zero, Int.emod_one, Int.zero_mul, Int.add_zero]; rfl
  | succ n ih =>
    have e : (if 0 ≤ ((a + n : Nat) : Int) ∧ w / 2 ^ (b + n) % 2 = 1 then (if b + n = 31 then -((2 : Int) ^ (a + n)) else 2 ^ (a + n)) else 0) = w / 2 ^ (b + n) % 2 * 2 ^ (a + n) := by
      rw [← bit_if, if_neg (by omega : ¬ b + n = 31)]
      by_cases g : w / 2 ^ (b + n) % 2 = 1
      · rw [if_pos ⟨by omega, g⟩, if_pos g]
      · rw [if_neg (fun k => g k.2), if_neg g]
    rw [← Nat.add_assoc, getK_succ, h n (by omega), Int.toNat_natCast, e, ih (by omega) (fun i hi => h i (by omega)), mod_succ _ (Int.ediv_nonneg hw (Int.le_of_lt (p2pos b))), div_div_p w hw]
    generalize w / 2 ^ (b + n) % 2 = B
    rw [Int.add_mul, Int.pow_add, Int.mul_assoc B, Int.mul_comm (2 ^ n)]
    omega
theorem getK_top {w : Int} (a : Nat) (h : plc f 31 = (a : Int)) : getK f w 32 = getK f w 31 - w / 2 ^ 31 % 2 * 2 ^ a := by
  rw [show (32 : Nat) = 31 + 1 from rfl, getK_succ, h, Int.toNat_natCast, if_pos rfl]
  by_cases g : w / 2 ^ 31 % 2 = 1
  · rw [if_pos ⟨by omega, g⟩, g]; omega
  · rw [if_neg (fun k => g k.2), show w / 2 ^ 31 % 2 = 0 by omega]; omega
theorem mskK_run (b n a : Nat) (h : ∀ i, i < n → plc f (b + i) = ((a + i : Nat) : Int)) : mskK f (b + n) = mskK f b + (2 ^ n - 1) * 2 ^ b := by
  induction n with
  | zero => rw [Int.pow_zero, Int.sub_self, Int.zero_mul, Int.add_zero]; rfl
  | succ n ih =>
    rw [← Nat.add_assoc, mskK_succ, h n (by omega), if_pos (by omega), ih (fun i hi => h i (by omega)), Int.pow_succ, Int.pow_add, Int.sub_mul, Int.sub_mul, Int.mul_assoc (2 ^ n) 2, Int.mul_comm 2 (2 ^ b), Int.mul_comm (2 ^ b) (2 ^ n), ← Int.mul_assoc]
    omega
end

/-! ### The closed forms -/
theorem put1 {u : Int} (hu : 0 ≤ u) : putK 1 u 32 = u % 4096 * 1048576 := by
  have h1 := putK_gap (f := 1) (u := u) 0 20 (fun i hi => by have := plc_f1 rfl (0 + i); omega)
  have h2 := putK_run (f := 1) hu 20 12 0 (fun i hi => by have := plc_f1 rfl (20 + i); omega)
  rw [h2, h1, show putK 1 u 0 = 0 from rfl]; simp
theorem get1 {w : Int} (hw : 0 ≤ w) : getK 1 w 32 = w / 1048576 % 2048 - w / 2147483648 % 2 * 2048 := by
  have h1 := getK_gap (f := 1) (w := w) 0 20 (fun i hi => by have := plc_f1 rfl (0 + i); omega)
  have h2 := getK_run (f := 1) hw 20 11 0 (by omega) (fun i hi => by have := plc_f1 rfl (20 + i); omega)
  have h3 := getK_top (f := 1) (w := w) 11 (by decide)
  rw [h3, h2, h1, show getK 1 w 0 = 0 from rfl]; simp
theorem msk1 : mskK 1 32 = 4293918720 := by decide
theorem put2 {u : Int} (hu : 0 ≤ u) : putK 2 u 32 = u % 32 * 128 + u / 32 % 128 * 33554432 := by
  have h0 := putK_gap (f := 2) (u := u) 0 7 (fun i hi => by have := plc_f2 rfl (0 + i); omega)
  have h1 := putK_run (f := 2) hu 7 5 0 (fun i hi => by have := plc_f2 rfl (7 + i); omega)
  have h2 := putK_gap (f := 2) (u := u) 12 13 (fun i hi => by have := plc_f2 rfl (12 + i); omega)
  have h3 := putK_run (f := 2) hu 25 7 5 (fun i hi => by have := plc_f2 rfl (25 + i); omega)
  rw [h3, h2, h1, h0, show putK 2 u 0 = 0 from rfl]; simp
theorem get2 {w : Int} (hw : 0 ≤ w) : getK 2 w 32 = w / 128 % 32 + w / 33554432 % 64 * 32 - w / 2147483648 % 2 * 2048 := by
  have h0 := getK_gap (f := 2) (w := w) 0 7 (fun i hi => by have := plc_f2 rfl (0 + i); omega)
  have h1 := getK_run (f := 2) hw 7 5 0 (by omega) (fun i hi => by have := plc_f2 rfl (7 + i); omega)
  have h2 := getK_gap (f := 2) (w := w) 12 13 (fun i hi => by have := plc_f2 rfl (12 + i); omega)
  have h3 := getK_run (f := 2) hw 25 6 5 (by omega) (fun i hi => by have := plc_f2 rfl (25 + i); omega)
  have ht := getK_top (f := 2) (w := w) 11 (by decide)
  rw [ht, h3, h2, h1, h0, show getK 2 w 0 = 0 from rfl]; simp
theorem msk2 : mskK 2 32 = 4261416832 := by decide
theorem put3 {u : Int} (hu : 0 ≤ u) : putK 3 u 32 = u / 2048 % 2 * 128 + u / 2 % 16 * 256 + u / 32 % 64 * 33554432 + u / 4096 % 2 * 2147483648 := by
  have h0 := putK_gap (f := 3) (u := u) 0 7 (fun i hi => by have := plc_f3 rfl (0 + i); omega)
  have h1 := putK_run (f := 3) hu 7 1 11 (fun i hi => by have := plc_f3 rfl (7 + i); omega)
  have h2 := putK_run (f := 3) hu 8 4 1 (fun i hi => by have := plc_f3 rfl (8 + i); omega)
  have h3 := putK_gap (f := 3) (u := u) 12 13 (fun i hi => by have := plc_f3 rfl (12 + i); omega)
  have h4 := putK_run (f := 3) hu 25 6 5 (fun i hi => by have := plc_f3 rfl (25 + i); omega)
  have h5 := putK_run (f := 3) hu 31 1 12 (fun i hi => by have := plc_f3 rfl (31 + i); omega)
  rw [h5, h4, h3, h2, h1, h0, show putK 3 u 0 = 0 from rfl]; simp
theorem get3 {w : Int} (hw : 0 ≤ w) : getK 3 w 32 = w / 128 % 2 * 2048 + w / 256 % 16 * 2 + w / 33554432 % 64 * 32 - w / 2147483648 % 2 * 4096 := by
  have h0 := getK_gap (f := 3) (w := w) 0 7 (fun i hi => by have := plc_f3 rfl (0 + i); omega)
  have h1 := getK_run (f := 3) hw 7 1 11 (by omega) (fun i hi => by have := plc_f3 rfl (7 + i); omega)
  have h2 := getK_run (f := 3) hw 8 4 1 (by omega) (fun i hi => by have := plc_f3 rfl (8 + i); omega)
  have h3 := getK_gap (f := 3) (w := w) 12 13 (fun i hi => by have := plc_f3 rfl (12 + i); omega)
  have h4 := getK_run (f := 3) hw 25 6 5 (by omega) (fun i hi => by have := plc_f3 rfl (25 + i); omega)
  have ht := getK_top (f := 3) (w := w) 12 (by decide)
  rw [ht, h4, h3, h2, h1, h0, show getK 3 w 0 = 0 from rfl]; simp
theorem msk3 : mskK 3 32 = 4261416832 := by decide
theorem put4 {u : Int} (hu : 0 ≤ u) : putK 4 u 32 = u / 4096 % 1048576 * 4096 := by
  have h0 := putK_gap (f := 4) (u := u) 0 12 (fun i hi => by have := plc_f4 rfl (0 + i); omega)
  have h1 := putK_run (f := 4) hu 12 20 12 (fun i hi => by have := plc_f4 rfl (12 + i); omega)
  rw [h1, h0, show putK 4 u 0 = 0 from rfl]; simp
theorem get4 {w : Int} (hw : 0 ≤ w) : getK 4 w 32 = w / 4096 % 524288 * 4096 - w / 2147483648 % 2 * 2147483648 := by
  have h0 := getK_gap (f := 4) (w := w) 0 12 (fun i hi => by have := plc_f4 rfl (0 + i); omega)
  have h1 := getK_run (f := 4) hw 12 19 12 (by omega) (fun i hi => by have := plc_f4 rfl (12 + i); omega)
  have ht := getK_top (f := 4) (w := w) 31 (by decide)
  rw [ht, h1, h0, show getK 4 w 0 = 0 from rfl]; simp
theorem msk4 : mskK 4 32 = 4294963200 := by decide
theorem put5 {u : Int} (hu : 0 ≤ u) : putK 5 u 32 = u / 4096 % 256 * 4096 + u / 2048 % 2 * 1048576 + u / 2 % 1024 * 2097152 + u / 1048576 % 2 * 2147483648 := by
  have h0 := putK_gap (f := 5) (u := u) 0 12 (fun i hi => by have := plc_f5 rfl (0 + i); omega)
  have h1 := putK_run (f := 5) hu 12 8 12 (fun i hi => by have := plc_f5 rfl (12 + i); omega)
  have h2 := putK_run (f := 5) hu 20 1 11 (fun i hi => by have := plc_f5 rfl (20 + i); omega)
  have h3 := putK_run (f := 5) hu 21 10 1 (fun i hi => by have := plc_f5 rfl (21 + i); omega)
  have h4 := putK_run (f := 5) hu 31 1 20 (fun i hi => by have := plc_f5 rfl (31 + i); omega)
  rw [h4, h3, h2, h1, h0, show putK 5 u 0 = 0 from rfl]; simp
theorem get5 {w : Int} (hw : 0 ≤ w) : getK 5 w 32 = w / 4096 % 256 * 4096 + w / 1048576 % 2 * 2048 + w / 2097152 % 1024 * 2 - w / 2147483648 % 2 * 1048576 := by
  have h0 := getK_gap (f := 5) (w := w) 0 12 (fun i hi => by have := plc_f5 rfl (0 + i); omega)
  have h1 := getK_run (f := 5) hw 12 8 12 (by omega) (fun i hi => by have := plc_f5 rfl (12 + i); omega)
  have h2 := getK_run (f := 5) hw 20 1 11 (by omega) (fun i hi => by have := plc_f5 rfl (20 + i); omega)
  have h3 := getK_run (f := 5) hw 21 10 1 (by omega) (fun i hi => by have := plc_f5 rfl (21 + i); omega)
  have ht := getK_top (f := 5) (w := w) 20 (by decide)
  rw [ht, h3, h2, h1, h0, show getK 5 w 0 = 0 from rfl]; simp
theorem msk5 : mskK 5 32 = 4294963200 := by decide
end Go.Proofs.YtbnacdhhacafkaaDoor
