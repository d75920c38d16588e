/- What instructions make of numbers, operation by operation: plain. Nothing here speaks of a program. -/
import Derived.Test.YtoifkdjalddhkaaDoorAr
import Derived.Test.YtoifkdjalddhkaaDoorBa
namespace Go.Proofs.YtoifkdjalddhkaaDoor
open Go.RowKit

def addV (a b : Int) : Int := u64 (a + b)
def subV (a b : Int) : Int := u64 (a - b)
def sllV (a b : Int) : Int := lefV a (b % 64).toNat
def srlV (a b : Int) : Int := rigV a 64 (b % 64).toNat 0
def sraV (a b : Int) : Int := rigV a 64 (b % 64).toNat (a / 9223372036854775808)
def sxw (x : Int) : Int := sx x 32
def zxw (x : Int) : Int := zx x 32
def addwV (a b : Int) : Int := sxw (u64 (a + b))
def subwV (a b : Int) : Int := sxw (u64 (a - b))
def sllwV (a b : Int) : Int := sxw (lefV a (b % 32).toNat)
def srlwV (a b : Int) : Int := sxw (rigV (zxw a) 32 (b % 32).toNat 0)
def srawV (a b : Int) : Int := sxw (rigV (zxw a) 32 (b % 32).toNat (zxw a / 2147483648))
/-- What a pair's operation makes. -/
def pairV (p a b : Int) : Int :=
  if p = 35 then addV a b else if p = 36 then subV a b else if p = 37 then sllV a b else if p = 38 then boolV (lowB a b) else if p = 39 then boolV (decide (a < b)) else if p = 40 then bits .xor .u64 a b else if p = 41 then srlV a b
  else if p = 42 then sraV a b else if p = 43 then bits .or .u64 a b else if p = 44 then bits .and .u64 a b else if p = 45 then addwV a b else if p = 46 then subwV a b else if p = 47 then sllwV a b else if p = 48 then srlwV a b else if p = 49 then srawV a b else 0
def numL8 : List Int := [35, 38, 39, 40, 43, 44, 37, 41, 42, 45, 47, 48, 49]
/-- The pair's operation of an immediate's. -/
def numP (op : Int) : Int := numL8.getD (op - 22).toNat 0
def resV (op imm pc a b : Int) : Int :=
  if op = 1 then IntKind.u64.wrap imm else if op = 2 then u64 (pc + IntKind.u64.wrap imm) else if op = 3 ∨ op = 4 then u64 (pc + 4) else if 22 ≤ op ∧ op ≤ 34 then pairV (numP op) a (IntKind.u64.wrap imm) else if 35 ≤ op ∧ op ≤ 49 then pairV op a b else 0
theorem resV_none {op imm pc a b : Int} (h : ¬ ((1 ≤ op ∧ op ≤ 4) ∨ (22 ≤ op ∧ op ≤ 49))) : resV op imm pc a b = 0 := by
  unfold resV
  rw [if_neg (by omega), if_neg (by omega), if_neg (by omega), if_neg (by omega), if_neg (by omega)]

theorem res_p {op imm pc a b : Int} (h : 35 ≤ op ∧ op ≤ 49) : resV op imm pc a b = pairV op a b := by
  unfold resV
  rw [if_neg (by omega), if_neg (by omega), if_neg (by omega), if_neg (by omega), if_pos h]
theorem res_n {op imm pc a b : Int} (p : Int) (h : 22 ≤ op ∧ op ≤ 34) (hp : numP op = p) : resV op imm pc a b = pairV p a (IntKind.u64.wrap imm) := by
  unfold resV
  rw [if_neg (by omega), if_neg (by omega), if_neg (by omega), if_pos h, hp]
section
variable (a b : Int)
theorem p_35 : pairV 35 a b = addV a b := by simp [pairV]
theorem p_36 : pairV 36 a b = subV a b := by simp [pairV]
theorem p_37 : pairV 37 a b = sllV a b := by simp [pairV]
theorem p_38 : pairV 38 a b = boolV (lowB a b) := by simp [pairV]
theorem p_39 : pairV 39 a b = boolV (decide (a < b)) := by simp [pairV]
theorem p_40 : pairV 40 a b = bits .xor .u64 a b := by simp [pairV]
theorem p_41 : pairV 41 a b = srlV a b := by simp [pairV]
theorem p_42 : pairV 42 a b = sraV a b := by simp [pairV]
theorem p_43 : pairV 43 a b = bits .or .u64 a b := by simp [pairV]
theorem p_44 : pairV 44 a b = bits .and .u64 a b := by simp [pairV]
theorem p_45 : pairV 45 a b = addwV a b := by simp [pairV]
theorem p_46 : pairV 46 a b = subwV a b := by simp [pairV]
theorem p_47 : pairV 47 a b = sllwV a b := by simp [pairV]
theorem p_48 : pairV 48 a b = srlwV a b := by simp [pairV]
theorem p_49 : pairV 49 a b = srawV a b := by simp [pairV]
end
/-! ### The same in other words -/
theorem w_add (a b : Int) : IntKind.u64.wrap (a + b) = addV a b := IntKind.wrap_u64 _
theorem w_imm (x : Int) : IntKind.u64.wrap x = u64 x := IntKind.wrap_u64 _
theorem nat_bits : ∀ n a b : Nat, a ≤ n → (a ||| b) + (a &&& b) = a + b ∧ (a ^^^ b) + (a &&& b) = (a ||| b)
  | 0, a, b, h => by
    obtain rfl : a = 0 := by omega
    simp
  | n + 1, a, b, h => by
    by_cases h0 : a = 0
    · subst h0; simp
    obtain ⟨h1, h2⟩ := nat_bits n (a / 2) (b / 2) (by omega)
    have o1 : (a ||| b) / 2 = a / 2 ||| b / 2 := by have := Nat.or_div_two_pow (a := a) (b := b) (n := 1); simpa using this
    have o2 : (a &&& b) / 2 = a / 2 &&& b / 2 := by have := Nat.and_div_two_pow (a := a) (b := b) (n := 1); simpa using this
    have o3 : (a ^^^ b) / 2 = a / 2 ^^^ b / 2 := by have := Nat.xor_div_two_pow (a := a) (b := b) (n := 1); simpa using this
    have m1 : (a ||| b) % 2 = (a % 2) ||| (b % 2) := by have := Nat.or_mod_two_pow (a := a) (b := b) (n := 1); simpa using this
    have m2 : (a &&& b) % 2 = (a % 2) &&& (b % 2) := by have := Nat.and_mod_two_pow (a := a) (b := b) (n := 1); simpa using this
    have m3 : (a ^^^ b) % 2 = (a % 2) ^^^ (b % 2) := by have := Nat.xor_mod_two_pow (a := a) (b := b) (n := 1); simpa using this
    generalize a ||| b = x at *
    generalize a &&& b = y at *
    generalize a ^^^ b = z at *
    rw [← o1, ← o2] at h1
    rw [← o1, ← o2, ← o3] at h2
    have ha := Nat.mod_two_eq_zero_or_one a
    have hb := Nat.mod_two_eq_zero_or_one b
    rcases ha with ha | ha <;> rcases hb with hb | hb <;> rw [ha, hb] at m1 m2 m3 <;> simp at m1 m2 m3 <;> omega
theorem i_bits (a b : Int) (ha : U64 a) (hb : U64 b) : bits .or .u64 a b + bits .and .u64 a b = a + b ∧ bits .xor .u64 a b + bits .and .u64 a b = bits .or .u64 a b ∧ U64 (bits .or .u64 a b) ∧ U64 (bits .and .u64 a b) ∧ U64 (bits .xor .u64 a b) := by
  unfold U64 at *
  obtain ⟨A, rfl⟩ := Int.eq_ofNat_of_zero_le ha.1
  obtain ⟨B, rfl⟩ := Int.eq_ofNat_of_zero_le hb.1
  have hA : A < 18446744073709551616 := by omega
  have hB : B < 18446744073709551616 := by omega
  rw [u64_or_nat A B hA hB, u64_and_nat A B hA hB, u64_xor_nat A B hA hB]
  obtain ⟨h1, h2⟩ := nat_bits A A B (Nat.le_refl _)
  have h3 : A ||| B < 2 ^ 64 := Nat.or_lt_two_pow (by omega) (by omega)
  refine ⟨by omega, by omega, by omega, by omega, by omega⟩
theorem w_xor (a b : Int) (ha : U64 a) (hb : U64 b) : IntKind.u64.wrap (bits .or .u64 a b - bits .and .u64 a b) = bits .xor .u64 a b := by
  obtain ⟨h1, h2, h3, h4, h5⟩ := i_bits a b ha hb
  rw [IntKind.wrap_u64]
  unfold U64 at *
  omega
theorem w_or (a b : Int) (ha : U64 a) (hb : U64 b) : IntKind.u64.wrap (IntKind.u64.wrap (a + b) - bits .and .u64 a b) = bits .or .u64 a b := by
  obtain ⟨h1, h2, h3, h4, h5⟩ := i_bits a b ha hb
  rw [IntKind.wrap_u64, IntKind.wrap_u64]
  unfold U64 at *
  omega
theorem w_U (x : Int) : U64 (IntKind.u64.wrap x) := by rw [w_imm]; exact u64_U x
theorem w_not (b : Int) (hb : U64 b) : bits .xor .u64 IntKind.u64.max b = 18446744073709551615 - b := by
  have hm : U64 18446744073709551615 := by unfold U64; omega
  obtain ⟨h1, h2, h3, h4, h5⟩ := i_bits 18446744073709551615 b hm hb
  have e : IntKind.u64.max = 18446744073709551615 := by decide
  rw [e]
  have ha : bits .and .u64 18446744073709551615 b = b := by
    unfold U64 at hb
    obtain ⟨B, rfl⟩ := Int.eq_ofNat_of_zero_le hb.1
    have hB : B < 18446744073709551616 := by omega
    have := u64_and_nat 18446744073709551615 B (by decide) hB
    rw [show ((18446744073709551615 : Nat) : Int) = 18446744073709551615 by rfl] at this
    rw [this, Nat.and_comm, show (18446744073709551615 : Nat) = 2 ^ 64 - 1 by decide, Nat.and_two_pow_sub_one_eq_mod, Nat.mod_eq_of_lt (by omega)]
  rw [ha] at h1 h2
  omega
theorem w_sub (a b : Int) (hb : U64 b) : IntKind.u64.wrap (IntKind.u64.wrap (a + bits .xor .u64 IntKind.u64.max b) + 1) = subV a b := by
  rw [w_not b hb, IntKind.wrap_u64, IntKind.wrap_u64]
  unfold subV u64
  omega
theorem w_addw (a b : Int) : sxw (IntKind.u64.wrap (a + b)) = addwV a b := by rw [IntKind.wrap_u64]; rfl
theorem w_subw (a b : Int) (hb : U64 b) : sxw (IntKind.u64.wrap (IntKind.u64.wrap (a + bits .xor .u64 IntKind.u64.max b) + 1)) = subwV a b := by rw [w_sub a b hb]; rfl
theorem U64.lt {x : Int} (h : U64 x) : x < 2 ^ 64 := by unfold U64 at h; omega
theorem tm_mod (b m : Int) (hb : U64 b) (h0 : 0 < m) (h1 : m ≤ 64) : wrap64 (b.tmod m) = b % m := by
  unfold U64 at hb
  rw [Int.tmod_eq_emod_of_nonneg hb.1, wrap64_eq, IntKind.wrap_i64]
  have := Int.emod_nonneg b (Int.ne_of_gt h0)
  have := Int.emod_lt_of_pos b h0
  omega
theorem top01 (a : Int) (ha : U64 a) : a / 9223372036854775808 = 0 ∨ a / 9223372036854775808 = 1 := by unfold U64 at ha; omega
theorem zx32 (a : Int) : 0 ≤ zx a (cap64 32) ∧ zx a (cap64 32) < 2 ^ 32 := ⟨zx_nonneg _ _, zx_lt _ _⟩
theorem zx32_top (a : Int) : zx a (cap64 32) / 2147483648 = 0 ∨ zx a (cap64 32) / 2147483648 = 1 := by
  obtain ⟨h0, h1⟩ := zx32 a
  rw [show (2 : Int) ^ 32 = 4294967296 by decide] at h1
  omega
theorem zxw_r (a : Int) : 0 ≤ zxw a ∧ zxw a < 4294967296 := ⟨zx_nonneg _ _, by have := zx_lt a 32; unfold zxw; omega⟩
theorem lefV_U (a : Int) (k : Nat) : U64 (lefV a k) := u64_U _
theorem rig_eq (a : Int) (n k : Nat) (hk : k ≤ n) (ha : 0 ≤ a) (ha2 : a < 2 ^ n) (fill : Int) : rigK a n k fill n = rigV a n k fill := rigK_all hk ha ha2
theorem rigV_U {a fill : Int} {n k : Nat} (hn : n ≤ 64) (hk : k ≤ n) (ha : 0 ≤ a) (ha2 : a < 2 ^ n) (hf : fill = 0 ∨ fill = 1) : U64 (rigV a n k fill) := by
  rw [← rigK_all hk ha ha2]
  have h := rigK_range (a := a) (n := n) (k := k) hf n
  have hp : (2 : Int) ^ n ≤ 2 ^ 64 := two_pow_le hn
  unfold U64
  omega
theorem rig32_U {z fill x : Int} (hz : 0 ≤ z ∧ z < 4294967296) (hf : fill = 0 ∨ fill = 1) (_h0 : 0 ≤ x) (h1 : x < 32) : U64 (rigV z 32 x.toNat fill) := rigV_U (by decide) (by omega) hz.1 (by omega) hf
end Go.Proofs.YtoifkdjalddhkaaDoor
