/- The code's own functions of numbers of package alu: less, number, chosen, ofHalves, ofPair, changed. -/
import Derived.Test.YtoifkdjalddhkaaDoorRows
import Derived.Test.YtoifkdjalddhkaaDoorRv
import Derived.Test.YtoifkdjalddhkaaDoorRk
import Derived.Test.YtoifkdjalddhkaaDoorWx
import Derived.WalkKit
import Derived.WalkLawsBesides
import Derived.WalkSmall
import Derived.WalkSpells
import Derived.Lib.Hide
import Derived.Below
import Derived.Outline
namespace Go.Proofs.YtoifkdjalddhkaaDoor
open Go.RowKit

/-! ### Plain -/
theorem w_sgn {a : Int} (h : U64 a) : wrap64 a = sgn a := by
  rw [wrap64_eq, IntKind.wrap_i64]
  unfold sgn
  unfold U64 at h
  split <;> omega
theorem and63 {b : Int} (h : U64 b) : bits .and .u64 b 63 = b % 64 := bits_mask .u64 64 (by decide) (fun n h₀ h₁ => by rw [IntKind.wrap_u64]; omega) 6 (by decide) b h.1 h.lt
theorem and31 {b : Int} (h : U64 b) : bits .and .u64 b 31 = b % 32 := bits_mask .u64 64 (by decide) (fun n h₀ h₁ => by rw [IntKind.wrap_u64]; omega) 5 (by decide) b h.1 h.lt
theorem nat_even (x : Nat) (h : x < 2 ^ 64) : x &&& 18446744073709551614 = x - x % 2 := by
  have h1 : (x &&& 18446744073709551614) / 2 = x / 2 &&& 18446744073709551614 / 2 := by have := Nat.and_div_two_pow (a := x) (b := 18446744073709551614) (n := 1); simpa using this
  have h2 : (x &&& 18446744073709551614) % 2 = (x % 2) &&& (18446744073709551614 % 2) := by have := Nat.and_mod_two_pow (a := x) (b := 18446744073709551614) (n := 1); simpa using this
  have e : (18446744073709551614 : Nat) / 2 = 2 ^ 63 - 1 := by decide
  rw [e, Nat.and_two_pow_sub_one_eq_mod, Nat.mod_eq_of_lt (by omega)] at h1
  rw [show (18446744073709551614 : Nat) % 2 = 0 by decide, Nat.and_zero] at h2
  generalize x &&& 18446744073709551614 = y at *
  omega
theorem even_bits {x : Int} (h : U64 x) : bits .andNot .u64 x 1 = x - x % 2 := by
  unfold U64 at h
  rw [u64_andNot x 1 h.1 h.2 (by decide) (by decide)]
  have := nat_even x.toNat (by omega)
  rw [show (18446744073709551615 - (1 : Int).toNat : Nat) = 18446744073709551614 by decide, this]
  omega
theorem rig_zero (a : Int) (n k : Nat) : rigV a n k 0 = a / 2 ^ k := by unfold rigV; omega
theorem sgn_div {a : Int} (h : U64 a) {k : Nat} (hk : k ≤ 64) : IntKind.u64.wrap (sgn a / 2 ^ k) = rigV a 64 k (a / 9223372036854775808) := by
  have hU := rigV_U (a := a) (fill := a / 9223372036854775808) (n := 64) (k := k) (by decide) hk h.1 h.lt (top01 a h)
  rw [IntKind.wrap_u64]
  unfold rigV sgn at *
  unfold U64 at h hU
  rcases top01 a h with e | e
  · rw [e] at hU ⊢
    rw [if_pos (by omega)]
    omega
  · rw [e] at hU ⊢
    rw [if_neg (by omega)]
    have hp : (18446744073709551616 : Int) = 2 ^ (64 - k) * 2 ^ k := by rw [← Int.pow_add, Nat.sub_add_cancel hk]; decide
    have hd : (a - 18446744073709551616) / 2 ^ k = a / 2 ^ k - 2 ^ (64 - k) := by
      rw [hp, Int.sub_eq_add_neg, ← Int.neg_mul, Int.add_mul_ediv_right _ _ (by have := two_pow_pos k; omega)]
      omega
    rw [hd]
    have e64 : (2 : Int) ^ 64 = 18446744073709551616 := by decide
    rw [e64] at hU ⊢
    generalize (2 : Int) ^ (64 - k) = p at *
    generalize a / 2 ^ k = q at *
    omega
theorem sx_of_zx {x y : Int} (hx : 0 ≤ x) (hy : 0 ≤ y) {k : Nat} (h : 1 ≤ k) (e : zx x k = zx y k) : sx x k = sx y k := by
  unfold sx
  rw [zx_bit x y hx hy k h e, e]
theorem sx_two (x : Int) {n : Nat} (h : n = 32 ∨ n = 64) : (sx x n = zx x n ∧ zx x n < 2 ^ (n - 1)) ∨ (sx x n = zx x n + (2 ^ 64 - 2 ^ n) ∧ 2 ^ (n - 1) ≤ zx x n) := by
  unfold sx zx
  rcases h with rfl | rfl
  · rw [show (2 : Int) ^ (32 - 1) = 2147483648 by decide, show (2 : Int) ^ 32 = 4294967296 by decide, show (2 : Int) ^ 64 = 18446744073709551616 by decide, if_neg (by decide)]
    split <;> omega
  · rw [show (2 : Int) ^ (64 - 1) = 9223372036854775808 by decide, show (2 : Int) ^ 64 = 18446744073709551616 by decide, if_neg (by decide)]
    split <;> omega
/-- SRAW: what the code makes of it. -/
theorem sraw_code (a : Int) {k : Nat} (hk : k ≤ 31) : sxw (IntKind.u64.wrap (sgn (sx a 32) / 2 ^ k)) = sxw (rigV (zxw a) 32 k (zxw a / 2147483648)) := by
  unfold sxw
  have hz := zxw_r a
  have ht : zxw a / 2147483648 = 0 ∨ zxw a / 2147483648 = 1 := by omega
  have hr := rigV_U (a := zxw a) (fill := zxw a / 2147483648) (n := 32) (k := k) (by decide) (by omega) hz.1 (by omega) ht
  have hs := sx_range a 32 (by decide)
  refine sx_of_zx (w_U _).1 hr.1 (by decide) ?_
  rw [IntKind.wrap_u64]
  have hsx : sgn (sx a 32) = if zxw a / 2147483648 = 1 then zxw a - 4294967296 else zxw a := by
    have h2 := sx_two a (n := 32) (.inl rfl)
    rw [show zx a 32 = zxw a from rfl, show (2 : Int) ^ (32 - 1) = 2147483648 by decide, show (2 : Int) ^ 64 - 2 ^ 32 = 18446744069414584320 by decide] at h2
    unfold sgn
    rcases h2 with ⟨e2, l2⟩ | ⟨e2, l2⟩
    · rw [e2, if_pos (by omega), if_neg (by omega)]
    · rw [e2, if_neg (by omega), if_pos (by omega)]
      omega
  rw [hsx]
  have hp : (4294967296 : Int) = 2 ^ (32 - k) * 2 ^ k := by rw [← Int.pow_add, Nat.sub_add_cancel (by omega)]; decide
  unfold rigV zx
  rcases ht with e | e
  · rw [e, if_neg (by decide)]
    have : 0 ≤ zxw a / 2 ^ k := Int.ediv_nonneg hz.1 (Int.le_of_lt (two_pow_pos k))
    rw [show (2 : Int) ^ 32 = 4294967296 by decide]
    omega
  · rw [e, if_pos rfl]
    have hd : (zxw a - 4294967296) / 2 ^ k = zxw a / 2 ^ k - 2 ^ (32 - k) := by
      conv => lhs; rw [hp]
      rw [Int.sub_eq_add_neg, ← Int.neg_mul, Int.add_mul_ediv_right _ _ (by have := two_pow_pos k; omega)]
      omega
    rw [hd]
    generalize (2 : Int) ^ (32 - k) = p at *
    generalize zxw a / 2 ^ k = q at *
    rw [show (2 : Int) ^ 32 = 4294967296 by decide]
    omega
/-- With their signs carried, words stand to each other as without. -/
theorem sx_lt (x y : Int) {n : Nat} (h : n = 32 ∨ n = 64) : sx x n < sx y n ↔ zx x n < zx y n := by
  have hp : (2 : Int) ^ n ≤ 2 ^ 64 := two_pow_le (by omega)
  rcases sx_two x h with ⟨e1, l1⟩ | ⟨e1, l1⟩ <;> rcases sx_two y h with ⟨e2, l2⟩ | ⟨e2, l2⟩ <;> rw [e1, e2] <;> omega
theorem min_code (old b : Int) {n : Nat} (h : n = 32 ∨ n = 64) : zx (if sx b n < sx old n then sx b n else sx old n) n = zx (if zx old n < zx b n then zx old n else sx b n) n := by
  have h1 := sx_lt b old h
  have hn : n ≤ 64 := by omega
  split <;> split
  · rw [zx_sx _ _ hn, zx_zx _ (Nat.le_refl _)]; omega
  · rfl
  · rw [zx_sx _ _ hn, zx_zx _ (Nat.le_refl _)]
  · rw [zx_sx _ _ hn, zx_sx _ _ hn]; omega
theorem max_code (old b : Int) {n : Nat} (h : n = 32 ∨ n = 64) : zx (if sx old n < sx b n then sx b n else sx old n) n = zx (if zx b n < zx old n then zx old n else sx b n) n := by
  have h1 := sx_lt old b h
  have hn : n ≤ 64 := by omega
  split <;> split
  · rw [zx_sx _ _ hn, zx_zx _ (Nat.le_refl _)]; omega
  · rfl
  · rw [zx_sx _ _ hn, zx_zx _ (Nat.le_refl _)]
  · rw [zx_sx _ _ hn, zx_sx _ _ hn]; omega

/-! ### The code's small functions -/
theorem less_c (a b : Int) (ha : U64 a) (hb : U64 b) (w : World) : Calls Tryd.prog 33 #[.int .u64 a, .int .u64 b] w fun e w' => e = .returned (.bool (lowB a b)) ∧ w = w' := by
  have h1 := Lib.hid (w_sgn ha)
  have h2 := Lib.hid (w_sgn hb)
  clear ha hb
  go_enter Tryd.func33, Tryd.ntmps33
  go_wp2
  go_ret
  exact ⟨ret_bool (by unfold lowB; rw [h1.out, h2.out]), rfl⟩
theorem number_c (b : Bool) (w : World) : Calls Tryd.prog 38 #[.bool b] w fun e w' => e = .returned (.int .u64 (boolV b)) ∧ w = w' := by
  cases b
  all_goals
    go_enter Tryd.func38, Tryd.ntmps38
    go_wp2
    go_ret
    exact ⟨rfl, rfl⟩
theorem chosen_c (c : Bool) (a b : Int) (w : World) : Calls Tryd.prog 41 #[.bool c, .int .u64 a, .int .u64 b] w fun e w' => e = .returned (.int .u64 (if c then a else b)) ∧ w = w' := by
  cases c
  all_goals
    go_enter Tryd.func41, Tryd.ntmps41
    go_wp2
    go_ret
    exact ⟨rfl, rfl⟩
end Go.Proofs.YtoifkdjalddhkaaDoor
