/- Numbers: low bits of words, single bits, and sums of powers of two. Nothing here speaks of a program. -/
import Derived.WalkKit
namespace Go.Proofs.YtbnacdhhacafkaaDoor
open Go.RowKit

theorem ret_int {k : IntKind} {a b : Int} (h : a = b) : Ending.returned (.int k a) = .returned (.int k b) := by rw [h]
theorem int_eq {k : IntKind} {a b : Int} (h : a = b) : Value.int k a = Value.int k b := by rw [h]
theorem ret_bool {a b : Bool} (h : a = b) : Ending.returned (.bool a) = .returned (.bool b) := by rw [h]
theorem bool_eq {a b : Bool} (h : a = b) : Value.bool a = Value.bool b := by rw [h]
theorem wrap64_eq (x : Int) : wrap64 x = IntKind.i64.wrap x := (IntWalk.i64_left x).symm
/-- How many low bits a number asks for: none below 1, all above 64. -/
def cap64 (n : Int) : Nat := min n.toNat 64

theorem two_pow_pos (k : Nat) : (0 : Int) < 2 ^ k := Int.pow_pos (by decide)
theorem two_pow_le {i j : Nat} (h : i ≤ j) : (2 : Int) ^ i ≤ 2 ^ j := by exact_mod_cast Nat.pow_le_pow_right (by decide) h
theorem two_pow_succ (k : Nat) : (2 : Int) ^ (k + 1) = 2 * 2 ^ k := by rw [Int.pow_succ]; omega

/-- The low k bits. -/
def zx (x : Int) (k : Nat) : Int := x % 2 ^ k
/-- The low k bits, with copies of the highest one above them, as a word. -/
def sx (x : Int) (k : Nat) : Int := if k = 0 then 0 else if x / 2 ^ (k - 1) % 2 = 1 then zx x k + (2 ^ 64 - 2 ^ k) else zx x k

theorem zx_nonneg (x : Int) (k : Nat) : 0 ≤ zx x k := Int.emod_nonneg _ (by have := two_pow_pos k; omega)
theorem zx_lt (x : Int) (k : Nat) : zx x k < 2 ^ k := Int.emod_lt_of_pos _ (two_pow_pos k)
theorem zx_zero (x : Int) : zx x 0 = 0 := by unfold zx; simp
theorem zx_full (x : Int) (h0 : 0 ≤ x) (h : x < 2 ^ 64) : zx x 64 = x := Int.emod_eq_of_lt h0 h
theorem zx_succ (x : Int) (hx : 0 ≤ x) (k : Nat) : zx x (k + 1) = zx x k + x / 2 ^ k % 2 * 2 ^ k := by
  obtain ⟨a, rfl⟩ := Int.eq_ofNat_of_zero_le hx
  unfold zx
  have h := @Nat.mod_mul (2 ^ k) 2 a
  rw [← Nat.pow_succ] at h
  have h2 : ((a % 2 ^ (k + 1) : Nat) : Int) = ((a % 2 ^ k + 2 ^ k * (a / 2 ^ k % 2) : Nat) : Int) := congrArg _ h
  simp only [Int.natCast_add, Int.natCast_mul, Int.natCast_emod, Int.natCast_ediv, Int.natCast_pow, Int.cast_ofNat_Int] at h2
  rw [h2, Int.mul_comm]
theorem zx_zx (x : Int) {i j : Nat} (h : i ≤ j) : zx (zx x j) i = zx x i := by
  unfold zx
  exact Int.emod_emod_of_dvd _ ⟨2 ^ (j - i), by rw [← Int.pow_add]; congr 1; omega⟩

theorem and1_u64 (a : Int) (h0 : 0 ≤ a) (h : a < 2 ^ 64) : bits .and .u64 a 1 = a % 2 :=
  bits_mask .u64 64 (by decide) (fun n h₀ h₁ => by rw [IntKind.wrap_u64]; omega) 1 (by decide) a h0 h
theorem and1_u32 (a : Int) (h0 : 0 ≤ a) (h : a < 2 ^ 32) : bits .and .u32 a 1 = a % 2 :=
  bits_mask .u32 32 (by decide) (fun n h₀ h₁ => by rw [IntKind.wrap_u32]; omega) 1 (by decide) a h0 h
theorem div_nonneg (x : Int) (k : Nat) (h : 0 ≤ x) : 0 ≤ x / 2 ^ k := Int.ediv_nonneg h (by have := two_pow_pos k; omega)
theorem div_lt (x : Int) (k : Nat) (h : 0 ≤ x) {m : Int} (hm : x < m) : x / 2 ^ k < m := by
  have := Int.ediv_le_self (a := x) (2 ^ k) h; omega
/-- 2^64 as 2^n times 2^a. -/
theorem two_pow_64 (n : Nat) (hn : n ≤ 64) : (18446744073709551616 : Int) = 2 ^ n * 2 ^ (64 - n) := by
  rw [← Int.pow_add, show n + (64 - n) = 64 by omega]; decide
theorem zx_shift (x : Int) (n : Nat) (hn : n ≤ 64) : IntKind.u64.wrap (x * 2 ^ (64 - n)) = zx x n * 2 ^ (64 - n) := by
  have hp := two_pow_pos (64 - n)
  rw [IntKind.wrap_u64, two_pow_64 n hn, Int.mul_comm x, Int.mul_comm (2 ^ n), Int.mul_emod_mul_of_pos _ _ hp, Int.mul_comm]; rfl
theorem zx_wrap (x : Int) (n : Nat) (hn : n ≤ 64) : IntKind.u64.wrap (x * 2 ^ (64 - n)) / 2 ^ (64 - n) = zx x n := by
  have hp := two_pow_pos (64 - n)
  rw [zx_shift x n hn, Int.mul_ediv_cancel _ (by omega)]
theorem bit_top (x : Int) (hx : 0 ≤ x) (n : Nat) (h : 1 ≤ n) : x / 2 ^ (n - 1) % 2 = 1 ↔ 2 ^ (n - 1) ≤ zx x n := by
  have h1 := zx_succ x hx (n - 1)
  rw [show n - 1 + 1 = n by omega] at h1
  have h2 := zx_lt x (n - 1)
  have h3 := zx_nonneg x (n - 1)
  have hp := two_pow_pos (n - 1)
  rcases Int.emod_two_eq (x / 2 ^ (n - 1)) with e | e <;> rw [e] at h1 ⊢ <;> omega
theorem sx_wrap (x : Int) (hx : 0 ≤ x) (n : Nat) (h : 1 ≤ n) (hn : n ≤ 64) :
    IntKind.u64.wrap (IntKind.i64.wrap (IntKind.u64.wrap (x * 2 ^ (64 - n))) / 2 ^ (64 - n)) = sx x n := by
  have hp := two_pow_pos (64 - n)
  have hq := two_pow_64 n hn
  have hq1 := two_pow_64 (n - 1) (by omega)
  have hs : (2 : Int) ^ (64 - (n - 1)) = 2 * 2 ^ (64 - n) := by rw [← two_pow_succ]; congr 1; omega
  have hb := bit_top x hx n h
  have z0 := zx_nonneg x n
  have z1 := zx_lt x n
  have hle : (2 : Int) ^ n ≤ 2 ^ 64 := two_pow_le hn
  have hn1 : (2 : Int) ^ n = 2 * 2 ^ (n - 1) := by rw [← two_pow_succ]; congr 1; omega
  have e63 : (9223372036854775808 : Int) = 2 ^ (n - 1) * 2 ^ (64 - n) := by
    rw [hs, ← Int.mul_assoc, Int.mul_comm _ 2, Int.mul_assoc] at hq1; omega
  rw [zx_shift x n hn]
  unfold sx
  rw [if_neg (by omega)]
  have hlt : zx x n * 2 ^ (64 - n) < 2 ^ n * 2 ^ (64 - n) := Int.mul_lt_mul_of_pos_right z1 hp
  have hge : 0 ≤ zx x n * 2 ^ (64 - n) := Int.mul_nonneg z0 (by omega)
  by_cases hbt : x / 2 ^ (n - 1) % 2 = 1
  · rw [if_pos hbt]
    have h2 : 2 ^ (n - 1) * 2 ^ (64 - n) ≤ zx x n * 2 ^ (64 - n) := Int.mul_le_mul_of_nonneg_right (hb.1 hbt) (by omega)
    have e : IntKind.i64.wrap (zx x n * 2 ^ (64 - n)) = (zx x n - 2 ^ n) * 2 ^ (64 - n) := by
      rw [Int.sub_mul, IntKind.wrap_i64, ← hq]; omega
    rw [e, Int.mul_ediv_cancel _ (by omega), IntKind.wrap_u64]
    omega
  · rw [if_neg hbt]
    have h2 : zx x n * 2 ^ (64 - n) < 2 ^ (n - 1) * 2 ^ (64 - n) := by
      refine Int.mul_lt_mul_of_pos_right ?_ hp
      have := fun h => hbt (hb.2 h); omega
    have e : IntKind.i64.wrap (zx x n * 2 ^ (64 - n)) = zx x n * 2 ^ (64 - n) := by
      rw [IntKind.wrap_i64]; omega
    rw [e, Int.mul_ediv_cancel _ (by omega), IntKind.wrap_u64]
    omega

/-- The bits from hi down to lo. -/
def fld (w : Int) (hi lo : Nat) : Int := w / 2 ^ lo % 2 ^ (hi + 1 - lo)
theorem fld_step (w : Int) (hw : 0 ≤ w) (hi i : Nat) (h : i ≤ hi) : 2 * fld w hi (i + 1) + w / 2 ^ i % 2 = fld w hi i := by
  obtain ⟨a, rfl⟩ := Int.eq_ofNat_of_zero_le hw
  unfold fld
  have h1 := @Nat.mod_mul 2 (2 ^ (hi - i)) (a / 2 ^ i)
  rw [Nat.div_div_eq_div_mul, ← Nat.pow_succ, Nat.mul_comm 2 (2 ^ _), ← Nat.pow_succ] at h1
  have h2 : ((a / 2 ^ i % 2 ^ (hi - i).succ : Nat) : Int) = ((a / 2 ^ i % 2 + 2 * (a / 2 ^ (i + 1) % 2 ^ (hi - i)) : Nat) : Int) := congrArg _ h1
  simp only [Int.natCast_add, Int.natCast_mul, Int.natCast_emod, Int.natCast_ediv, Int.natCast_pow, Int.cast_ofNat_Int] at h2
  rw [show hi + 1 - (i + 1) = hi - i by omega, show hi + 1 - i = (hi - i).succ by omega, h2]
  omega
theorem fld_top (w : Int) (hi : Nat) : fld w hi (hi + 1) = 0 := by unfold fld; simp
theorem fld_zx (w : Int) (hi lo : Nat) : fld w hi lo = zx (w / 2 ^ lo) (hi + 1 - lo) := rfl

theorem zx_sub (x y : Int) (k : Nat) (h : ∃ c, x = y + c * 2 ^ k) : zx x k = zx y k := by
  obtain ⟨c, rfl⟩ := h
  unfold zx
  rw [Int.add_mul_emod_self_right]
theorem zx_sx (x : Int) (k : Nat) (hk : k ≤ 64) : zx (sx x k) k = zx x k := by
  unfold sx
  by_cases h0 : k = 0
  · subst h0; rw [if_pos rfl, zx_zero, zx_zero]
  rw [if_neg h0]
  split
  · refine (zx_sub _ (zx x k) k ⟨2 ^ (64 - k) - 1, ?_⟩).trans (zx_zx x (Nat.le_refl k))
    rw [Int.sub_mul, ← Int.pow_add, show 64 - k + k = 64 by omega]
    omega
  · exact zx_zx x (Nat.le_refl k)
theorem zx_bit (x y : Int) (hx : 0 ≤ x) (hy : 0 ≤ y) (k : Nat) (h : 1 ≤ k) (e : zx x k = zx y k) : x / 2 ^ (k - 1) % 2 = y / 2 ^ (k - 1) % 2 := by
  have h1 := bit_top x hx k h
  have h2 := bit_top y hy k h
  rw [e] at h1
  have h3 := h1.trans h2.symm
  rcases Int.emod_two_eq (x / 2 ^ (k - 1)) with a | a <;> rcases Int.emod_two_eq (y / 2 ^ (k - 1)) with b | b <;> simp_all
theorem sx_range (x : Int) (k : Nat) (hk : k ≤ 64) : 0 ≤ sx x k ∧ sx x k < 2 ^ 64 := by
  have a := zx_nonneg x k
  have b := zx_lt x k
  have c : (2 : Int) ^ k ≤ 2 ^ 64 := two_pow_le hk
  unfold sx
  split
  · omega
  split <;> omega
theorem sx_sx (x : Int) (hx : 0 ≤ x) (k : Nat) (hk : k ≤ 64) : sx (sx x k) k = sx x k := by
  have hz := zx_sx x k hk
  have hr := sx_range x k hk
  by_cases h0 : k = 0
  · subst h0; rfl
  have hb := zx_bit (sx x k) x hr.1 hx k (by omega) hz
  have e : ∀ y, sx y k = if y / 2 ^ (k - 1) % 2 = 1 then zx y k + (2 ^ 64 - 2 ^ k) else zx y k := fun y => by unfold sx; rw [if_neg h0]
  rw [e (sx x k), hb, hz, ← e x]
end Go.Proofs.YtbnacdhhacafkaaDoor
