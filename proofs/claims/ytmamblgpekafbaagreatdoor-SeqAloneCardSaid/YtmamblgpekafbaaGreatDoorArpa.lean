/- Of stage 11. -/
import Derived.Test.YtmamblgpekafbaaGreatDoorBapa
import Derived.Laws.BitsAllLaws
import Derived.Laws.Closers25b
import Derived.WalkLawsBesides
import Derived.WalkSmall
import Derived.WalkSpells
import Derived.Lib.Hide
import Derived.LoopTactic
set_option maxRecDepth 100000
namespace Go.Proofs.YtmamblgpekafbaaGreatDoor
open Go.RowKit
def U64 (x : Int) : Prop := 0 ≤ x ∧ x < 18446744073709551616
def u64 (x : Int) : Int := x % 18446744073709551616
theorem zH6 (x : Int) : U64 (u64 x) := by unfold U64 u64; omega
theorem u64_id {x : Int} (h : U64 x) : u64 x = x := by unfold u64; unfold U64 at h; omega
def sgn (x : Int) : Int := if x < 9223372036854775808 then x else x - 18446744073709551616
def lowB (a b : Int) : Bool := decide (sgn a < sgn b)
def zC6 (b : Bool) : Int := if b then 1 else 0
def lefV (a : Int) (k : Nat) : Int := u64 (a * 2 ^ k)
theorem Zg6 {a : Int} (h : U64 a) : lefV a 0 = a := by unfold lefV; rw [Int.pow_zero, Int.mul_one]; exact u64_id h
theorem Zb3 (a : Int) (k : Nat) : lefV a (k + 1) = u64 (lefV a k + lefV a k) := by
  unfold lefV u64
  rw [zg7]
  generalize (2 : Int) ^ k = p
  rw [show a * (2 * p) = a * p + a * p by rw [Int.mul_left_comm]; omega]
  omega
def rigK (a : Int) (n k : Nat) (fill : Int) : Nat → Int
  | 0 => 0
  | i + 1 => rigK a n k fill i + (if i + k < n then a / 2 ^ (i + k) % 2 else fill) * 2 ^ i
theorem zo4 {a : Int} {n k : Nat} {fill : Int} (hf : fill = 0 ∨ fill = 1) : ∀ i, 0 ≤ rigK a n k fill i ∧ rigK a n k fill i < 2 ^ i
  | 0 => by unfold rigK; simp
  | i + 1 => by
    obtain ⟨h0, h1⟩ := zo4 (a := a) (n := n) (k := k) hf i
    unfold rigK
    have hp := zc0 i
    rw [zg7]
    have hb : ∃ b : Int, (if i + k < n then a / 2 ^ (i + k) % 2 else fill) = b ∧ (b = 0 ∨ b = 1) := by
      refine ⟨_, rfl, ?_⟩
      split
      · exact Int.emod_two_eq _
      · exact hf
    obtain ⟨b, e, hb⟩ := hb
    rw [e]
    rcases hb with rfl | rfl
    · rw [Int.zero_mul]; omega
    · rw [Int.one_mul]; omega
def rigV (a : Int) (n k : Nat) (fill : Int) : Int := a / 2 ^ k + fill * (2 ^ n - 2 ^ (n - k))
theorem zU2 {a : Int} {n k : Nat} {fill : Int} (ha : 0 ≤ a) : ∀ i, i + k ≤ n → rigK a n k fill i = zx (a / 2 ^ k) i
  | 0, _ => by rw [zu1]; rfl
  | i + 1, h => by
    unfold rigK
    rw [if_pos (by omega), zU2 ha i (by omega), zD8 _ (Int.ediv_nonneg ha (Int.le_of_lt (zc0 k)))]
    rw [Int.ediv_ediv_of_nonneg (Int.le_of_lt (zc0 k)), ← Int.pow_add, Nat.add_comm k i]
theorem zK9 {a : Int} {n k : Nat} {fill : Int} (hk : k ≤ n) (ha : 0 ≤ a) (ha2 : a < 2 ^ n) : ∀ j, rigK a n k fill (n - k + j) = a / 2 ^ k + fill * (2 ^ (n - k + j) - 2 ^ (n - k))
  | 0 => by
    rw [Nat.add_zero, zU2 ha (n - k) (by omega), Int.sub_self, Int.mul_zero, Int.add_zero]
    unfold zx
    refine Int.emod_eq_of_lt (Int.ediv_nonneg ha (Int.le_of_lt (zc0 k))) ?_
    refine Int.ediv_lt_of_lt_mul (zc0 k) ?_
    rw [← Int.pow_add, Nat.sub_add_cancel hk]
    exact ha2
  | j + 1 => by
    rw [← Nat.add_assoc]
    unfold rigK
    rw [if_neg (by omega), zK9 hk ha ha2 j, zg7]
    generalize (2 : Int) ^ (n - k + j) = p
    generalize (2 : Int) ^ (n - k) = q
    rw [Int.add_assoc, ← Int.mul_add]
    congr 2
    omega
theorem zR8 {a : Int} {n k : Nat} {fill : Int} (hk : k ≤ n) (ha : 0 ≤ a) (ha2 : a < 2 ^ n) : rigK a n k fill n = rigV a n k fill := by
  have := zK9 (fill := fill) hk ha ha2 k
  rw [Nat.sub_add_cancel hk] at this
  exact this
theorem low_of (a b : Int) (ha : U64 a) (hb : U64 b) : lowB a b = (if a / 9223372036854775808 ≠ b / 9223372036854775808 then decide (a / 9223372036854775808 = 1) else decide (a < b)) := by
  unfold lowB sgn
  unfold U64 at ha hb
  rw [Bool.eq_iff_iff]
  split <;> split <;> split <;> simp <;> omega
end Go.Proofs.YtmamblgpekafbaaGreatDoor
namespace Go.Proofs.YtmamblgpekafbaaGreatDoor
open Go.RowKit
def addV (a b : Int) : Int := u64 (a + b)
def subV (a b : Int) : Int := u64 (a - b)
def sllV (a b : Int) : Int := lefV a (b % 64).toNat
def srlV (a b : Int) : Int := rigV a 64 (b % 64).toNat 0
def sraV (a b : Int) : Int := rigV a 64 (b % 64).toNat (a / 9223372036854775808)
def sxw (x : Int) : Int := sx x 32
def zxw (x : Int) : Int := zx x 32
def addwV (a b : Int) : Int := sxw (u64 (a + b))
def subwV (a b : Int) : Int := sxw (u64 (a - b))
def sllwV (a b : Int) : Int := sxw (lefV a (b % 32).toNat)
def srlwV (a b : Int) : Int := sxw (rigV (zxw a) 32 (b % 32).toNat 0)
def srawV (a b : Int) : Int := sxw (rigV (zxw a) 32 (b % 32).toNat (zxw a / 2147483648))
def zd4 (p a b : Int) : Int :=
  if p = 35 then addV a b else if p = 36 then subV a b else if p = 37 then sllV a b else if p = 38 then zC6 (lowB a b) else if p = 39 then zC6 (decide (a < b)) else if p = 40 then bits .xor .u64 a b else if p = 41 then srlV a b
  else if p = 42 then sraV a b else if p = 43 then bits .or .u64 a b else if p = 44 then bits .and .u64 a b else if p = 45 then addwV a b else if p = 46 then subwV a b else if p = 47 then sllwV a b else if p = 48 then srlwV a b else if p = 49 then srawV a b else 0
def Zc1 : List Int := [35, 38, 39, 40, 43, 44, 37, 41, 42, 45, 47, 48, 49]
def zP4 (op : Int) : Int := Zc1.getD (op - 22).toNat 0
def resV (op imm pc a b : Int) : Int :=
  if op = 1 then IntKind.u64.wrap imm else if op = 2 then u64 (pc + IntKind.u64.wrap imm) else if op = 3 ∨ op = 4 then u64 (pc + 4) else if 22 ≤ op ∧ op ≤ 34 then zd4 (zP4 op) a (IntKind.u64.wrap imm) else if 35 ≤ op ∧ op ≤ 49 then zd4 op a b else 0
theorem zb1 {op imm pc a b : Int} (h : ¬ ((1 ≤ op ∧ op ≤ 4) ∨ (22 ≤ op ∧ op ≤ 49))) : resV op imm pc a b = 0 := by
  unfold resV
  rw [if_neg (by omega), if_neg (by omega), if_neg (by omega), if_neg (by omega), if_neg (by omega)]
theorem zp1 {op imm pc a b : Int} (h : 35 ≤ op ∧ op ≤ 49) : resV op imm pc a b = zd4 op a b := by
  unfold resV
  rw [if_neg (by omega), if_neg (by omega), if_neg (by omega), if_neg (by omega), if_pos h]
theorem zs3 {op imm pc a b : Int} (p : Int) (h : 22 ≤ op ∧ op ≤ 34) (hp : zP4 op = p) : resV op imm pc a b = zd4 p a (IntKind.u64.wrap imm) := by
  unfold resV
  rw [if_neg (by omega), if_neg (by omega), if_neg (by omega), if_pos h, hp]
section
variable (a b : Int)
theorem p_35 : zd4 35 a b = addV a b := by simp [zd4]
theorem p_36 : zd4 36 a b = subV a b := by simp [zd4]
theorem p_37 : zd4 37 a b = sllV a b := by simp [zd4]
theorem p_38 : zd4 38 a b = zC6 (lowB a b) := by simp [zd4]
theorem p_39 : zd4 39 a b = zC6 (decide (a < b)) := by simp [zd4]
theorem p_40 : zd4 40 a b = bits .xor .u64 a b := by simp [zd4]
theorem p_41 : zd4 41 a b = srlV a b := by simp [zd4]
theorem p_42 : zd4 42 a b = sraV a b := by simp [zd4]
theorem p_43 : zd4 43 a b = bits .or .u64 a b := by simp [zd4]
theorem p_44 : zd4 44 a b = bits .and .u64 a b := by simp [zd4]
theorem p_45 : zd4 45 a b = addwV a b := by simp [zd4]
theorem p_46 : zd4 46 a b = subwV a b := by simp [zd4]
theorem p_47 : zd4 47 a b = sllwV a b := by simp [zd4]
theorem p_48 : zd4 48 a b = srlwV a b := by simp [zd4]
theorem p_49 : zd4 49 a b = srawV a b := by simp [zd4]
end
theorem w_add (a b : Int) : IntKind.u64.wrap (a + b) = addV a b := IntKind.wrap_u64 _
theorem zz2 (x : Int) : IntKind.u64.wrap x = u64 x := IntKind.wrap_u64 _
theorem zT7 : ∀ n a b : Nat, a ≤ n → (a ||| b) + (a &&& b) = a + b ∧ (a ^^^ b) + (a &&& b) = (a ||| b)
  | 0, a, b, h => by
    obtain rfl : a = 0 := by omega
    simp
  | n + 1, a, b, h => by
    by_cases h0 : a = 0
    · subst h0; simp
    obtain ⟨h1, h2⟩ := zT7 n (a / 2) (b / 2) (by omega)
    have o1 : (a ||| b) / 2 = a / 2 ||| b / 2 := by have := Nat.or_div_two_pow (a := a) (b := b) (n := 1); simpa using this
    have o2 : (a &&& b) / 2 = a / 2 &&& b / 2 := by have := Nat.and_div_two_pow (a := a) (b := b) (n := 1); simpa using this
    have o3 : (a ^^^ b) / 2 = a / 2 ^^^ b / 2 := by have := Nat.xor_div_two_pow (a := a) (b := b) (n := 1); simpa using this
    have m1 : (a ||| b) % 2 = (a % 2) ||| (b % 2) := by have := Nat.or_mod_two_pow (a := a) (b := b) (n := 1); simpa using this
    have m2 : (a &&& b) % 2 = (a % 2) &&& (b % 2) := by have := Nat.and_mod_two_pow (a := a) (b := b) (n := 1); simpa using this
    have m3 : (a ^^^ b) % 2 = (a % 2) ^^^ (b % 2) := by have := Nat.xor_mod_two_pow (a := a) (b := b) (n := 1); simpa using this
    generalize a ||| b = x at *
    generalize a &&& b = y at *
    generalize a ^^^ b = z at *
    rw [← o1, ← o2] at h1
    rw [← o1, ← o2, ← o3] at h2
    have ha := Nat.mod_two_eq_zero_or_one a
    have hb := Nat.mod_two_eq_zero_or_one b
    rcases ha with ha | ha <;> rcases hb with hb | hb <;> rw [ha, hb] at m1 m2 m3 <;> simp at m1 m2 m3 <;> omega
theorem zB4 (a b : Int) (ha : U64 a) (hb : U64 b) : bits .or .u64 a b + bits .and .u64 a b = a + b ∧ bits .xor .u64 a b + bits .and .u64 a b = bits .or .u64 a b ∧ U64 (bits .or .u64 a b) ∧ U64 (bits .and .u64 a b) ∧ U64 (bits .xor .u64 a b) := by
  unfold U64 at *
  obtain ⟨A, rfl⟩ := Int.eq_ofNat_of_zero_le ha.1
  obtain ⟨B, rfl⟩ := Int.eq_ofNat_of_zero_le hb.1
  have hA : A < 18446744073709551616 := by omega
  have hB : B < 18446744073709551616 := by omega
  rw [u64_or_nat A B hA hB, u64_and_nat A B hA hB, u64_xor_nat A B hA hB]
  obtain ⟨h1, h2⟩ := zT7 A A B (Nat.le_refl _)
  have h3 : A ||| B < 2 ^ 64 := Nat.or_lt_two_pow (by omega) (by omega)
  refine ⟨by omega, by omega, by omega, by omega, by omega⟩
theorem w_xor (a b : Int) (ha : U64 a) (hb : U64 b) : IntKind.u64.wrap (bits .or .u64 a b - bits .and .u64 a b) = bits .xor .u64 a b := by
  obtain ⟨h1, h2, h3, h4, h5⟩ := zB4 a b ha hb
  rw [IntKind.wrap_u64]
  unfold U64 at *
  omega
theorem w_or (a b : Int) (ha : U64 a) (hb : U64 b) : IntKind.u64.wrap (IntKind.u64.wrap (a + b) - bits .and .u64 a b) = bits .or .u64 a b := by
  obtain ⟨h1, h2, h3, h4, h5⟩ := zB4 a b ha hb
  rw [IntKind.wrap_u64, IntKind.wrap_u64]
  unfold U64 at *
  omega
theorem w_U (x : Int) : U64 (IntKind.u64.wrap x) := by rw [zz2]; exact zH6 x
theorem w_not (b : Int) (hb : U64 b) : bits .xor .u64 IntKind.u64.max b = 18446744073709551615 - b := by
  have hm : U64 18446744073709551615 := by unfold U64; omega
  obtain ⟨h1, h2, h3, h4, h5⟩ := zB4 18446744073709551615 b hm hb
  have e : IntKind.u64.max = 18446744073709551615 := by decide
  rw [e]
  have ha : bits .and .u64 18446744073709551615 b = b := by
    unfold U64 at hb
    obtain ⟨B, rfl⟩ := Int.eq_ofNat_of_zero_le hb.1
    have hB : B < 18446744073709551616 := by omega
    have := u64_and_nat 18446744073709551615 B (by decide) hB
    rw [show ((18446744073709551615 : Nat) : Int) = 18446744073709551615 by rfl] at this
    rw [this, Nat.and_comm, show (18446744073709551615 : Nat) = 2 ^ 64 - 1 by decide, Nat.and_two_pow_sub_one_eq_mod, Nat.mod_eq_of_lt (by omega)]
  rw [ha] at h1 h2
  omega
theorem w_sub (a b : Int) (hb : U64 b) : IntKind.u64.wrap (IntKind.u64.wrap (a + bits .xor .u64 IntKind.u64.max b) + 1) = subV a b := by
  rw [w_not b hb, IntKind.wrap_u64, IntKind.wrap_u64]
  unfold subV u64
  omega
theorem w_addw (a b : Int) : sxw (IntKind.u64.wrap (a + b)) = addwV a b := by rw [IntKind.wrap_u64]; rfl
theorem w_subw (a b : Int) (hb : U64 b) : sxw (IntKind.u64.wrap (IntKind.u64.wrap (a + bits .xor .u64 IntKind.u64.max b) + 1)) = subwV a b := by rw [w_sub a b hb]; rfl
theorem U64.lt {x : Int} (h : U64 x) : x < 2 ^ 64 := by unfold U64 at h; omega
theorem ze5 (b m : Int) (hb : U64 b) (h0 : 0 < m) (h1 : m ≤ 64) : wrap64 (b.tmod m) = b % m := by
  unfold U64 at hb
  rw [Int.tmod_eq_emod_of_nonneg hb.1, ze2, IntKind.wrap_i64]
  have := Int.emod_nonneg b (Int.ne_of_gt h0)
  have := Int.emod_lt_of_pos b h0
  omega
theorem zy8 (a : Int) (ha : U64 a) : a / 9223372036854775808 = 0 ∨ a / 9223372036854775808 = 1 := by unfold U64 at ha; omega
theorem zy9 (a : Int) : 0 ≤ zxw a ∧ zxw a < 4294967296 := ⟨zi3 _ _, by have := zD9 a 32; unfold zxw; omega⟩
theorem zr0 (a : Int) (k : Nat) : U64 (lefV a k) := zH6 _
theorem zJ5 {a fill : Int} {n k : Nat} (hn : n ≤ 64) (hk : k ≤ n) (ha : 0 ≤ a) (ha2 : a < 2 ^ n) (hf : fill = 0 ∨ fill = 1) : U64 (rigV a n k fill) := by
  rw [← zR8 hk ha ha2]
  have h := zo4 (a := a) (n := n) (k := k) hf n
  have hp : (2 : Int) ^ n ≤ 2 ^ 64 := ze7 hn
  unfold U64
  omega
theorem zh3 {z fill x : Int} (hz : 0 ≤ z ∧ z < 4294967296) (hf : fill = 0 ∨ fill = 1) (_h0 : 0 ≤ x) (h1 : x < 32) : U64 (rigV z 32 x.toNat fill) := zJ5 (by decide) (by omega) hz.1 (by omega) hf
end Go.Proofs.YtmamblgpekafbaaGreatDoor
namespace Go.Proofs.YtmamblgpekafbaaGreatDoor
open Go.RowKit
theorem zm9 (b : Bool) (w : World) : Calls Tryz.prog 76 #[.bool b] w fun e w' => e = .returned (.int .u64 (zC6 b)) ∧ w = w' := by
  cases b
  all_goals
    go_enter Tryz.func76, Tryz.ntmps76
    go_wp2
    go_ret
    exact ⟨rfl, rfl⟩
theorem zm8 (a b : Int) (ha : U64 a) (hb : U64 b) (w : World) : Calls Tryz.prog 73 #[.int .u64 a, .int .u64 b] w fun e w' => e = .returned (.bool (lowB a b)) ∧ w = w' := by
  have hl := low_of a b ha hb
  clear ha hb
  by_cases e : a / 9223372036854775808 = b / 9223372036854775808
  · rw [if_neg (fun h => h e)] at hl
    have hne : (a / 9223372036854775808 != b / 9223372036854775808) = false := by simp [e]
    have HL := Lib.hid hl
    clear e hl
    go_enter Tryz.func73, Tryz.ntmps73
    go_wp2
    go_ret
    exact ⟨zb0 (by rw [HL.out]), rfl⟩
  · rw [if_pos e] at hl
    have hne : (a / 9223372036854775808 != b / 9223372036854775808) = true := by simp [e]
    have HL := Lib.hid hl
    clear e hl
    go_enter Tryz.func73, Tryz.ntmps73
    go_wp2
    go_ret
    exact ⟨zb0 (by rw [HL.out]; rfl), rfl⟩
theorem rleft_c (a : Int) (k : Nat) (ha : U64 a) (hk : k ≤ 64) (w : World) : Calls Tryz.prog 77 #[.int .u64 a, .int .i64 k] w fun e w' => e = .returned (.int .u64 (lefV a k)) ∧ w = w' := by
  have H0 := Lib.hid (Zg6 ha)
  clear ha
  go_enter Tryz.func77, Tryz.ntmps77
  go_wp2
  go_loop [0, 5] (fun o i => ∃ j : Nat, j ≤ k ∧ i = .int .i64 j ∧ o = .int .u64 (lefV a j)) (fun _ i => 64 - (intOf i).toNat)
  case atStart => exact ⟨0, by omega, rfl, zk0 H0.out.symm⟩
  case round =>
    obtain ⟨j, hj, rfl, rfl⟩ := hrel
    by_cases hlt : j < k
    · have hltI : (j : Int) < k := by omega
      have HS := Lib.hid (Zb3 a j)
      generalize lefV a j = z at *
      go_wp2
      go_round
      case rel => exact ⟨j + 1, by omega, by go_num, zk0 (by rw [HS.out, IntKind.wrap_u64]; unfold u64; rfl)⟩
      case measure => simp [intOf]; omega
    · obtain rfl : j = k := by omega
      go_wp2
      go_ret
      exact ⟨rfl, rfl⟩
theorem zU9 {z z2 b p q : Int} (h2 : 0 ≤ z2 ∧ z2 < q) (hq : q ≤ 2 ^ 64) (he : z2 = z + b * p) : IntKind.u64.wrap (z + IntKind.u64.wrap (b * p)) = z2 := by
  rw [IntKind.wrap_u64, IntKind.wrap_u64]
  generalize b * p = y at *
  omega
theorem rright_c (a fill : Int) (n k : Nat) (ha : U64 a) (hn : n ≤ 64) (hk : k < 64) (hf : fill = 0 ∨ fill = 1) (w : World) :
    Calls Tryz.prog 78 #[.int .u64 a, .int .i64 n, .int .i64 k, .int .u64 fill] w fun e w' => e = .returned (.int .u64 (rigK a n k fill n)) ∧ w = w' := by
  have HA := Lib.hid ha
  have HF := Lib.hid hf
  clear ha hf
  go_enter Tryz.func78, Tryz.ntmps78
  go_wp2
  go_loop [9, 10] (fun o i => ∃ j : Nat, j ≤ n ∧ i = .int .i64 j ∧ o = .int .u64 (rigK a n k fill j)) (fun _ i => 64 - (intOf i).toNat)
  case atStart => exact ⟨0, by omega, rfl, rfl⟩
  case round =>
    obtain ⟨j, hj, rfl, rfl⟩ := hrel
    by_cases hlt : j < n
    · have hltI : (j : Int) < n := by omega
      have hr1 := zo4 (a := a) (n := n) (k := k) HF.out j
      have hr2 := zo4 (a := a) (n := n) (k := k) HF.out (j + 1)
      have hp : (2 : Int) ^ (j + 1) ≤ 2 ^ 64 := ze7 (by omega)
      have hz : rigK a n k fill (j + 1) = rigK a n k fill j + (if j + k < n then a / 2 ^ (j + k) % 2 else fill) * 2 ^ j := rfl
      have HR := Lib.hid hr1
      have HR2 := Lib.hid hr2
      have HP := Lib.hid hp
      clear hr1 hr2 hp
      by_cases hkn : j + k < n
      · rw [if_pos hkn] at hz
        have hb : bits .and .u64 (a / 2 ^ (j + k)) 1 = a / 2 ^ (j + k) % 2 := zD0 _ (zo5 a _ HA.out.1) (zU8 a _ HA.out.1 HA.out.2)
        rw [← hb] at hz
        have HZ := Lib.hid hz
        have HB := Lib.hid (by rw [hb]; omega : 0 ≤ bits .and .u64 (a / 2 ^ (j + k)) 1 ∧ bits .and .u64 (a / 2 ^ (j + k)) 1 < 2)
        have hkI : (j : Int) + k < n := by omega
        clear hz hb
        generalize rigK a n k fill j = z at *
        go_wp2
        go_round
        case rel => exact ⟨j + 1, by omega, by go_num, zk0 (zU9 HR2.out HP.out HZ.out)⟩
        case measure => simp [intOf]; omega
      · rw [if_neg hkn] at hz
        have HZ := Lib.hid hz
        have hkI : ¬ (j : Int) + k < n := by omega
        clear hz
        generalize rigK a n k fill j = z at *
        go_wp2
        go_round
        case rel => exact ⟨j + 1, by omega, by go_num, zk0 (zU9 HR2.out HP.out HZ.out)⟩
        case measure => simp [intOf]; omega
    · obtain rfl : j = n := by omega
      go_wp2
      go_ret
      exact ⟨rfl, rfl⟩
theorem zn6 (a x : Int) (ha : U64 a) (h0 : 0 ≤ x) (h1 : x ≤ 64) (w : World) : Calls Tryz.prog 77 #[.int .u64 a, .int .i64 x] w fun e w' => e = .returned (.int .u64 (lefV a x.toNat)) ∧ w = w' := by
  obtain ⟨k, rfl⟩ := Int.eq_ofNat_of_zero_le h0
  exact rleft_c a k ha (by omega) w
theorem zT5 (a x fill : Int) (n : Nat) (hn : n ≤ 64) (ha : 0 ≤ a) (ha2 : a < 2 ^ n) (h0 : 0 ≤ x) (h1 : x < 64) (h2 : x ≤ n) (hf : fill = 0 ∨ fill = 1) (w : World) :
    Calls Tryz.prog 78 #[.int .u64 a, .int .i64 n, .int .i64 x, .int .u64 fill] w fun e w' => e = .returned (.int .u64 (rigV a n x.toNat fill)) ∧ w = w' := by
  obtain ⟨k, rfl⟩ := Int.eq_ofNat_of_zero_le h0
  have hp : (2 : Int) ^ n ≤ 2 ^ 64 := ze7 hn
  have := rright_c a fill n k ⟨ha, by omega⟩ hn (by omega) hf w
  rw [zR8 (by omega) ha ha2] at this
  exact this
theorem rr64 (a x fill : Int) (ha : U64 a) (hf : fill = 0 ∨ fill = 1) (h0 : 0 ≤ x) (h1 : x < 64) (w : World) :
    Calls Tryz.prog 78 #[.int .u64 a, .int .i64 64, .int .i64 x, .int .u64 fill] w fun e w' => e = .returned (.int .u64 (rigV a 64 x.toNat fill)) ∧ w = w' :=
  zT5 a x fill 64 (by decide) ha.1 (by unfold U64 at ha; omega) h0 h1 (by omega) hf w
theorem rr32 (a x fill : Int) (ha : 0 ≤ a ∧ a < 4294967296) (hf : fill = 0 ∨ fill = 1) (h0 : 0 ≤ x) (h1 : x < 32) (w : World) :
    Calls Tryz.prog 78 #[.int .u64 a, .int .i64 32, .int .i64 x, .int .u64 fill] w fun e w' => e = .returned (.int .u64 (rigV a 32 x.toNat fill)) ∧ w = w' :=
  zT5 a x fill 32 (by decide) ha.1 (by omega) h0 (by omega) (by omega) hf w
end Go.Proofs.YtmamblgpekafbaaGreatDoor
