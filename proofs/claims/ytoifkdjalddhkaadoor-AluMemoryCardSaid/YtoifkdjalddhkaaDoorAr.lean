/- What instructions make of numbers: plain. Nothing here speaks of a program. -/
import Derived.Test.YtoifkdjalddhkaaDoorBa
import Derived.Laws.BitsAllLaws
import Derived.Laws.Closers25b
namespace Go.Proofs.YtoifkdjalddhkaaDoor
open Go.RowKit

def U64 (x : Int) : Prop := 0 ≤ x ∧ x < 18446744073709551616
def u64 (x : Int) : Int := x % 18446744073709551616
theorem u64_U (x : Int) : U64 (u64 x) := by unfold U64 u64; omega
theorem u64_id {x : Int} (h : U64 x) : u64 x = x := by unfold u64; unfold U64 at h; omega
/-- A word as a signed number. -/
def sgn (x : Int) : Int := if x < 9223372036854775808 then x else x - 18446744073709551616
/-- Is a signed number less than another one? -/
def lowB (a b : Int) : Bool := decide (sgn a < sgn b)
def boolV (b : Bool) : Int := if b then 1 else 0
/-- By some places to the left. -/
def lefV (a : Int) (k : Nat) : Int := u64 (a * 2 ^ k)
theorem lefV_zero {a : Int} (h : U64 a) : lefV a 0 = a := by unfold lefV; rw [Int.pow_zero, Int.mul_one]; exact u64_id h
theorem lefV_succ (a : Int) (k : Nat) : lefV a (k + 1) = u64 (lefV a k + lefV a k) := by
  unfold lefV u64
  rw [two_pow_succ]
  generalize (2 : Int) ^ k = p
  rw [show a * (2 * p) = a * p + a * p by rw [Int.mul_left_comm]; omega]
  omega
/-- Of n bits, by k places to the right, filled with a bit: the first i bits. -/
def rigK (a : Int) (n k : Nat) (fill : Int) : Nat → Int
  | 0 => 0
  | i + 1 => rigK a n k fill i + (if i + k < n then a / 2 ^ (i + k) % 2 else fill) * 2 ^ i
theorem rigK_range {a : Int} {n k : Nat} {fill : Int} (hf : fill = 0 ∨ fill = 1) : ∀ i, 0 ≤ rigK a n k fill i ∧ rigK a n k fill i < 2 ^ i
  | 0 => by unfold rigK; simp
  | i + 1 => by
    obtain ⟨h0, h1⟩ := rigK_range (a := a) (n := n) (k := k) hf i
    unfold rigK
    have hp := two_pow_pos i
    rw [two_pow_succ]
    have hb : ∃ b : Int, (if i + k < n then a / 2 ^ (i + k) % 2 else fill) = b ∧ (b = 0 ∨ b = 1) := by
      refine ⟨_, rfl, ?_⟩
      split
      · exact Int.emod_two_eq _
      · exact hf
    obtain ⟨b, e, hb⟩ := hb
    rw [e]
    rcases hb with rfl | rfl
    · rw [Int.zero_mul]; omega
    · rw [Int.one_mul]; omega
/-- The closed form. -/
def rigV (a : Int) (n k : Nat) (fill : Int) : Int := a / 2 ^ k + fill * (2 ^ n - 2 ^ (n - k))
theorem rigK_low {a : Int} {n k : Nat} {fill : Int} (ha : 0 ≤ a) : ∀ i, i + k ≤ n → rigK a n k fill i = zx (a / 2 ^ k) i
  | 0, _ => by rw [zx_zero]; rfl
  | i + 1, h => by
    unfold rigK
    rw [if_pos (by omega), rigK_low ha i (by omega), zx_succ _ (Int.ediv_nonneg ha (Int.le_of_lt (two_pow_pos k)))]
    rw [Int.ediv_ediv_of_nonneg (Int.le_of_lt (two_pow_pos k)), ← Int.pow_add, Nat.add_comm k i]
theorem rigK_high {a : Int} {n k : Nat} {fill : Int} (hk : k ≤ n) (ha : 0 ≤ a) (ha2 : a < 2 ^ n) : ∀ j, rigK a n k fill (n - k + j) = a / 2 ^ k + fill * (2 ^ (n - k + j) - 2 ^ (n - k))
  | 0 => by
    rw [Nat.add_zero, rigK_low ha (n - k) (by omega), Int.sub_self, Int.mul_zero, Int.add_zero]
    unfold zx
    refine Int.emod_eq_of_lt (Int.ediv_nonneg ha (Int.le_of_lt (two_pow_pos k))) ?_
    refine Int.ediv_lt_of_lt_mul (two_pow_pos k) ?_
    rw [← Int.pow_add, Nat.sub_add_cancel hk]
    exact ha2
  | j + 1 => by
    rw [← Nat.add_assoc]
    unfold rigK
    rw [if_neg (by omega), rigK_high hk ha ha2 j, two_pow_succ]
    generalize (2 : Int) ^ (n - k + j) = p
    generalize (2 : Int) ^ (n - k) = q
    rw [Int.add_assoc, ← Int.mul_add]
    congr 2
    omega
theorem rigK_all {a : Int} {n k : Nat} {fill : Int} (hk : k ≤ n) (ha : 0 ≤ a) (ha2 : a < 2 ^ n) : rigK a n k fill n = rigV a n k fill := by
  have := rigK_high (fill := fill) hk ha ha2 k
  rw [Nat.sub_add_cancel hk] at this
  exact this
theorem low_of (a b : Int) (ha : U64 a) (hb : U64 b) : lowB a b = (if a / 9223372036854775808 ≠ b / 9223372036854775808 then decide (a / 9223372036854775808 = 1) else decide (a < b)) := by
  unfold lowB sgn
  unfold U64 at ha hb
  rw [Bool.eq_iff_iff]
  split <;> split <;> split <;> simp <;> omega
end Go.Proofs.YtoifkdjalddhkaaDoor
