/- What instructions make of numbers: plain. Nothing here speaks of a program. What instructions make of numbers, operation by operation: plain. Nothing here speaks of a program. The contracts of the document's Low, Right, Left, Bool. -/
import Derived.Test.YtolmecnjolfjgaaGreatDoorBau
import Derived.Laws.BitsAllLaws
import Derived.Laws.Closers25b
import Derived.Test.YtolmecnjolfjgaaGreatDoorRows
import Derived.WalkKit
import Derived.WalkLawsBesides
import Derived.WalkSmall
import Derived.WalkSpells
import Derived.Lib.Hide
import Derived.Below
import Derived.LoopTactic
set_option maxRecDepth 100000
namespace Go.Proofs.YtolmecnjolfjgaaGreatDoor
open Go.RowKit

def U64 (x : Int) : Prop := 0 ≤ x ∧ x < 18446744073709551616
def u64 (x : Int) : Int := x % 18446744073709551616
theorem u64_U (x : Int) : U64 (u64 x) := by unfold U64 u64; omega
/-- A word as a signed number. -/
def sgn (x : Int) : Int := if x < 9223372036854775808 then x else x - 18446744073709551616
/-- Is a signed number less than another one? -/
def lowB (a b : Int) : Bool := decide (sgn a < sgn b)
def boolV (b : Bool) : Int := if b then 1 else 0
/-- By some places to the left. -/
def lefV (a : Int) (k : Nat) : Int := u64 (a * 2 ^ k)
/-- Of n bits, by k places to the right, filled with a bit: the first i bits. -/
def rigK (a : Int) (n k : Nat) (fill : Int) : Nat → Int
  | 0 => 0
  | i + 1 => rigK a n k fill i + (if i + k < n then a / 2 ^ (i + k) % 2 else fill) * 2 ^ i
theorem rigK_range {a : Int} {n k : Nat} {fill : Int} (hf : fill = 0 ∨ fill = 1) : ∀ i, 0 ≤ rigK a n k fill i ∧ rigK a n k fill i < 2 ^ i
  | 0 => by unfold rigK; simp
  | i + 1 => by
    obtain ⟨h0, h1⟩ := rigK_range (a := a) (n := n) (k := k) hf i
    unfold rigK
    have hp := two_pow_pos i
    rw [two_pow_succ]
    have hb : ∃ b : Int, (if i + k < n then a / 2 ^ (i + k) % 2 else fill) = b ∧ (b = 0 ∨ b = 1) := by
      refine ⟨_, rfl, ?_⟩
      split
      · exact Int.emod_two_eq _
      · exact hf
    obtain ⟨b, e, hb⟩ := hb
    rw [e]
    rcases hb with rfl | rfl
    · rw [Int.zero_mul]; omega
    · rw [Int.one_mul]; omega
/-- The closed form. -/
def rigV (a : Int) (n k : Nat) (fill : Int) : Int := a / 2 ^ k + fill * (2 ^ n - 2 ^ (n - k))
theorem rigK_low {a : Int} {n k : Nat} {fill : Int} (ha : 0 ≤ a) : ∀ i, i + k ≤ n → rigK a n k fill i = zx (a / 2 ^ k) i
  | 0, _ => by rw [zx_zero]; rfl
  | i + 1, h => by
    unfold rigK
    rw [if_pos (by omega), rigK_low ha i (by omega), zx_succ _ (Int.ediv_nonneg ha (Int.le_of_lt (two_pow_pos k)))]
    rw [Int.ediv_ediv_of_nonneg (Int.le_of_lt (two_pow_pos k)), ← Int.pow_add, Nat.add_comm k i]
theorem rigK_high {a : Int} {n k : Nat} {fill : Int} (hk : k ≤ n) (ha : 0 ≤ a) (ha2 : a < 2 ^ n) : ∀ j, rigK a n k fill (n - k + j) = a / 2 ^ k + fill * (2 ^ (n - k + j) - 2 ^ (n - k))
  | 0 => by
    rw [Nat.add_zero, rigK_low ha (n - k) (by omega), Int.sub_self, Int.mul_zero, Int.add_zero]
    unfold zx
    refine Int.emod_eq_of_lt (Int.ediv_nonneg ha (Int.le_of_lt (two_pow_pos k))) ?_
    refine Int.ediv_lt_of_lt_mul (two_pow_pos k) ?_
    rw [← Int.pow_add, Nat.sub_add_cancel hk]
    exact ha2
  | j + 1 => by
    rw [← Nat.add_assoc]
    unfold rigK
    rw [if_neg (by omega), rigK_high hk ha ha2 j, two_pow_succ]
    generalize (2 : Int) ^ (n - k + j) = p
    generalize (2 : Int) ^ (n - k) = q
    rw [Int.add_assoc, ← Int.mul_add]
    congr 2
    omega
theorem rigK_all {a : Int} {n k : Nat} {fill : Int} (hk : k ≤ n) (ha : 0 ≤ a) (ha2 : a < 2 ^ n) : rigK a n k fill n = rigV a n k fill := by
  have := rigK_high (fill := fill) hk ha ha2 k
  rw [Nat.sub_add_cancel hk] at this
  exact this
end Go.Proofs.YtolmecnjolfjgaaGreatDoor
namespace Go.Proofs.YtolmecnjolfjgaaGreatDoor
open Go.RowKit

def addV (a b : Int) : Int := u64 (a + b)
def subV (a b : Int) : Int := u64 (a - b)
def sllV (a b : Int) : Int := lefV a (b % 64).toNat
def srlV (a b : Int) : Int := rigV a 64 (b % 64).toNat 0
def sraV (a b : Int) : Int := rigV a 64 (b % 64).toNat (a / 9223372036854775808)
def sxw (x : Int) : Int := sx x 32
def zxw (x : Int) : Int := zx x 32
def addwV (a b : Int) : Int := sxw (u64 (a + b))
def subwV (a b : Int) : Int := sxw (u64 (a - b))
def sllwV (a b : Int) : Int := sxw (lefV a (b % 32).toNat)
def srlwV (a b : Int) : Int := sxw (rigV (zxw a) 32 (b % 32).toNat 0)
def srawV (a b : Int) : Int := sxw (rigV (zxw a) 32 (b % 32).toNat (zxw a / 2147483648))
/-- What a pair's operation makes. -/
def pairV (p a b : Int) : Int :=
  if p = 35 then addV a b else if p = 36 then subV a b else if p = 37 then sllV a b else if p = 38 then boolV (lowB a b) else if p = 39 then boolV (decide (a < b)) else if p = 40 then bits .xor .u64 a b else if p = 41 then srlV a b
  else if p = 42 then sraV a b else if p = 43 then bits .or .u64 a b else if p = 44 then bits .and .u64 a b else if p = 45 then addwV a b else if p = 46 then subwV a b else if p = 47 then sllwV a b else if p = 48 then srlwV a b else if p = 49 then srawV a b else 0
def numL8 : List Int := [35, 38, 39, 40, 43, 44, 37, 41, 42, 45, 47, 48, 49]
/-- The pair's operation of an immediate's. -/
def numP8 (op : Int) : Int := numL8.getD (op - 22).toNat 0
def resV (op imm pc a b : Int) : Int :=
  if op = 1 then IntKind.u64.wrap imm else if op = 2 then u64 (pc + IntKind.u64.wrap imm) else if op = 3 ∨ op = 4 then u64 (pc + 4) else if 22 ≤ op ∧ op ≤ 34 then pairV (numP8 op) a (IntKind.u64.wrap imm) else if 35 ≤ op ∧ op ≤ 49 then pairV op a b else 0
theorem resV_none {op imm pc a b : Int} (h : ¬ ((1 ≤ op ∧ op ≤ 4) ∨ (22 ≤ op ∧ op ≤ 49))) : resV op imm pc a b = 0 := by
  unfold resV
  rw [if_neg (by omega), if_neg (by omega), if_neg (by omega), if_neg (by omega), if_neg (by omega)]

theorem res_p {op imm pc a b : Int} (h : 35 ≤ op ∧ op ≤ 49) : resV op imm pc a b = pairV op a b := by
  unfold resV
  rw [if_neg (by omega), if_neg (by omega), if_neg (by omega), if_neg (by omega), if_pos h]
theorem res_n {op imm pc a b : Int} (p : Int) (h : 22 ≤ op ∧ op ≤ 34) (hp : numP8 op = p) : resV op imm pc a b = pairV p a (IntKind.u64.wrap imm) := by
  unfold resV
  rw [if_neg (by omega), if_neg (by omega), if_neg (by omega), if_pos h, hp]
section
variable (a b : Int)
theorem p_35 : pairV 35 a b = addV a b := by simp [pairV]
theorem p_36 : pairV 36 a b = subV a b := by simp [pairV]
theorem p_37 : pairV 37 a b = sllV a b := by simp [pairV]
theorem p_38 : pairV 38 a b = boolV (lowB a b) := by simp [pairV]
theorem p_39 : pairV 39 a b = boolV (decide (a < b)) := by simp [pairV]
theorem p_40 : pairV 40 a b = bits .xor .u64 a b := by simp [pairV]
theorem p_41 : pairV 41 a b = srlV a b := by simp [pairV]
theorem p_42 : pairV 42 a b = sraV a b := by simp [pairV]
theorem p_43 : pairV 43 a b = bits .or .u64 a b := by simp [pairV]
theorem p_44 : pairV 44 a b = bits .and .u64 a b := by simp [pairV]
theorem p_45 : pairV 45 a b = addwV a b := by simp [pairV]
theorem p_46 : pairV 46 a b = subwV a b := by simp [pairV]
theorem p_47 : pairV 47 a b = sllwV a b := by simp [pairV]
theorem p_48 : pairV 48 a b = srlwV a b := by simp [pairV]
theorem p_49 : pairV 49 a b = srawV a b := by simp [pairV]
end
theorem w_imm (x : Int) : IntKind.u64.wrap x = u64 x := IntKind.wrap_u64 _
theorem nat_bits : ∀ n a b : Nat, a ≤ n → (a ||| b) + (a &&& b) = a + b ∧ (a ^^^ b) + (a &&& b) = (a ||| b)
  | 0, a, b, h => by
    obtain rfl : a = 0 := by omega
    simp
  | n + 1, a, b, h => by
    by_cases h0 : a = 0
    · subst h0; simp
    obtain ⟨h1, h2⟩ := nat_bits n (a / 2) (b / 2) (by omega)
    have o1 : (a ||| b) / 2 = a / 2 ||| b / 2 := by have := Nat.or_div_two_pow (a := a) (b := b) (n := 1); simpa using this
    have o2 : (a &&& b) / 2 = a / 2 &&& b / 2 := by have := Nat.and_div_two_pow (a := a) (b := b) (n := 1); simpa using this
    have o3 : (a ^^^ b) / 2 = a / 2 ^^^ b / 2 := by have := Nat.xor_div_two_pow (a := a) (b := b) (n := 1); simpa using this
    have m1 : (a ||| b) % 2 = (a % 2) ||| (b % 2) := by have := Nat.or_mod_two_pow (a := a) (b := b) (n := 1); simpa using this
    have m2 : (a &&& b) % 2 = (a % 2) &&& (b % 2) := by have := Nat.and_mod_two_pow (a := a) (b := b) (n := 1); simpa using this
    have m3 : (a ^^^ b) % 2 = (a % 2) ^^^ (b % 2) := by have := Nat.xor_mod_two_pow (a := a) (b := b) (n := 1); simpa using this
    generalize a ||| b = x at *
    generalize a &&& b = y at *
    generalize a ^^^ b = z at *
    rw [← o1, ← o2] at h1
    rw [← o1, ← o2, ← o3] at h2
    have ha := Nat.mod_two_eq_zero_or_one a
    have hb := Nat.mod_two_eq_zero_or_one b
    rcases ha with ha | ha <;> rcases hb with hb | hb <;> rw [ha, hb] at m1 m2 m3 <;> simp at m1 m2 m3 <;> omega
theorem i_bits (a b : Int) (ha : U64 a) (hb : U64 b) : bits .or .u64 a b + bits .and .u64 a b = a + b ∧ bits .xor .u64 a b + bits .and .u64 a b = bits .or .u64 a b ∧ U64 (bits .or .u64 a b) ∧ U64 (bits .and .u64 a b) ∧ U64 (bits .xor .u64 a b) := by
  unfold U64 at *
  obtain ⟨A, rfl⟩ := Int.eq_ofNat_of_zero_le ha.1
  obtain ⟨B, rfl⟩ := Int.eq_ofNat_of_zero_le hb.1
  have hA : A < 18446744073709551616 := by omega
  have hB : B < 18446744073709551616 := by omega
  rw [u64_or_nat A B hA hB, u64_and_nat A B hA hB, u64_xor_nat A B hA hB]
  obtain ⟨h1, h2⟩ := nat_bits A A B (Nat.le_refl _)
  have h3 : A ||| B < 2 ^ 64 := Nat.or_lt_two_pow (by omega) (by omega)
  refine ⟨by omega, by omega, by omega, by omega, by omega⟩
theorem w_U (x : Int) : U64 (IntKind.u64.wrap x) := by rw [w_imm]; exact u64_U x
theorem U64.lt {x : Int} (h : U64 x) : x < 2 ^ 64 := by unfold U64 at h; omega
theorem top01 (a : Int) (ha : U64 a) : a / 9223372036854775808 = 0 ∨ a / 9223372036854775808 = 1 := by unfold U64 at ha; omega
theorem zxw_r (a : Int) : 0 ≤ zxw a ∧ zxw a < 4294967296 := ⟨zx_nonneg _ _, by have := zx_lt a 32; unfold zxw; omega⟩
theorem lefV_U (a : Int) (k : Nat) : U64 (lefV a k) := u64_U _
theorem rigV_U {a fill : Int} {n k : Nat} (hn : n ≤ 64) (hk : k ≤ n) (ha : 0 ≤ a) (ha2 : a < 2 ^ n) (hf : fill = 0 ∨ fill = 1) : U64 (rigV a n k fill) := by
  rw [← rigK_all hk ha ha2]
  have h := rigK_range (a := a) (n := n) (k := k) hf n
  have hp : (2 : Int) ^ n ≤ 2 ^ 64 := two_pow_le hn
  unfold U64
  omega
end Go.Proofs.YtolmecnjolfjgaaGreatDoor
namespace Go.Proofs.YtolmecnjolfjgaaGreatDoor
open Go.RowKit

end Go.Proofs.YtolmecnjolfjgaaGreatDoor
