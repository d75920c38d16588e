/- The contracts of the document's Low, Right, Left, Bool. -/
import Derived.Test.YtoifkdjalddhkaaDoorRows
import Derived.Test.YtoifkdjalddhkaaDoorAr
import Derived.WalkKit
import Derived.WalkLawsBesides
import Derived.WalkSmall
import Derived.WalkSpells
import Derived.Lib.Hide
import Derived.Below
import Derived.LoopTactic
namespace Go.Proofs.YtoifkdjalddhkaaDoor
open Go.RowKit

theorem rbool_c (b : Bool) (w : World) : Calls Tryd.prog 28 #[.bool b] w fun e w' => e = .returned (.int .u64 (boolV b)) ∧ w = w' := by
  cases b
  all_goals
    go_enter Tryd.func28, Tryd.ntmps28
    go_wp2
    go_ret
    exact ⟨rfl, rfl⟩
theorem rlow_c (a b : Int) (ha : U64 a) (hb : U64 b) (w : World) : Calls Tryd.prog 29 #[.int .u64 a, .int .u64 b] w fun e w' => e = .returned (.bool (lowB a b)) ∧ w = w' := by
  have hl := low_of a b ha hb
  clear ha hb
  by_cases e : a / 9223372036854775808 = b / 9223372036854775808
  · rw [if_neg (fun h => h e)] at hl
    have hne : (a / 9223372036854775808 != b / 9223372036854775808) = false := by simp [e]
    have HL := Lib.hid hl
    clear e hl
    go_enter Tryd.func29, Tryd.ntmps29
    go_wp2
    go_ret
    exact ⟨ret_bool (by rw [HL.out]), rfl⟩
  · rw [if_pos e] at hl
    have hne : (a / 9223372036854775808 != b / 9223372036854775808) = true := by simp [e]
    have HL := Lib.hid hl
    clear e hl
    go_enter Tryd.func29, Tryd.ntmps29
    go_wp2
    go_ret
    exact ⟨ret_bool (by rw [HL.out]; rfl), rfl⟩
theorem rleft_c (a : Int) (k : Nat) (ha : U64 a) (hk : k ≤ 64) (w : World) : Calls Tryd.prog 30 #[.int .u64 a, .int .i64 k] w fun e w' => e = .returned (.int .u64 (lefV a k)) ∧ w = w' := by
  have H0 := Lib.hid (lefV_zero ha)
  clear ha
  go_enter Tryd.func30, Tryd.ntmps30
  go_wp2
  go_loop [0, 5] (fun o i => ∃ j : Nat, j ≤ k ∧ i = .int .i64 j ∧ o = .int .u64 (lefV a j)) (fun _ i => 64 - (intOf i).toNat)
  case atStart => exact ⟨0, by omega, rfl, int_eq H0.out.symm⟩
  case round =>
    obtain ⟨j, hj, rfl, rfl⟩ := hrel
    by_cases hlt : j < k
    · have hltI : (j : Int) < k := by omega
      have HS := Lib.hid (lefV_succ a j)
      generalize lefV a j = z at *
      go_wp2
      go_round
      case rel => exact ⟨j + 1, by omega, by go_num, int_eq (by rw [HS.out, IntKind.wrap_u64]; unfold u64; rfl)⟩
      case measure => simp [intOf]; omega
    · obtain rfl : j = k := by omega
      go_wp2
      go_ret
      exact ⟨rfl, rfl⟩
theorem wrap_add {z z2 b p q : Int} (h2 : 0 ≤ z2 ∧ z2 < q) (hq : q ≤ 2 ^ 64) (he : z2 = z + b * p) : IntKind.u64.wrap (z + IntKind.u64.wrap (b * p)) = z2 := by
  rw [IntKind.wrap_u64, IntKind.wrap_u64]
  generalize b * p = y at *
  omega
theorem rright_c (a fill : Int) (n k : Nat) (ha : U64 a) (hn : n ≤ 64) (hk : k < 64) (hf : fill = 0 ∨ fill = 1) (w : World) :
    Calls Tryd.prog 31 #[.int .u64 a, .int .i64 n, .int .i64 k, .int .u64 fill] w fun e w' => e = .returned (.int .u64 (rigK a n k fill n)) ∧ w = w' := by
  have HA := Lib.hid ha
  have HF := Lib.hid hf
  clear ha hf
  go_enter Tryd.func31, Tryd.ntmps31
  go_wp2
  go_loop [9, 10] (fun o i => ∃ j : Nat, j ≤ n ∧ i = .int .i64 j ∧ o = .int .u64 (rigK a n k fill j)) (fun _ i => 64 - (intOf i).toNat)
  case atStart => exact ⟨0, by omega, rfl, rfl⟩
  case round =>
    obtain ⟨j, hj, rfl, rfl⟩ := hrel
    by_cases hlt : j < n
    · have hltI : (j : Int) < n := by omega
      have hr1 := rigK_range (a := a) (n := n) (k := k) HF.out j
      have hr2 := rigK_range (a := a) (n := n) (k := k) HF.out (j + 1)
      have hp : (2 : Int) ^ (j + 1) ≤ 2 ^ 64 := two_pow_le (by omega)
      have hz : rigK a n k fill (j + 1) = rigK a n k fill j + (if j + k < n then a / 2 ^ (j + k) % 2 else fill) * 2 ^ j := rfl
      have HR := Lib.hid hr1
      have HR2 := Lib.hid hr2
      have HP := Lib.hid hp
      clear hr1 hr2 hp
      by_cases hkn : j + k < n
      · rw [if_pos hkn] at hz
        have hb : bits .and .u64 (a / 2 ^ (j + k)) 1 = a / 2 ^ (j + k) % 2 := and1_u64 _ (div_nonneg a _ HA.out.1) (div_lt a _ HA.out.1 HA.out.2)
        rw [← hb] at hz
        have HZ := Lib.hid hz
        have HB := Lib.hid (by rw [hb]; omega : 0 ≤ bits .and .u64 (a / 2 ^ (j + k)) 1 ∧ bits .and .u64 (a / 2 ^ (j + k)) 1 < 2)
        have hkI : (j : Int) + k < n := by omega
        clear hz hb
        generalize rigK a n k fill j = z at *
        go_wp2
        go_round
        case rel => exact ⟨j + 1, by omega, by go_num, int_eq (wrap_add HR2.out HP.out HZ.out)⟩
        case measure => simp [intOf]; omega
      · rw [if_neg hkn] at hz
        have HZ := Lib.hid hz
        have hkI : ¬ (j : Int) + k < n := by omega
        clear hz
        generalize rigK a n k fill j = z at *
        go_wp2
        go_round
        case rel => exact ⟨j + 1, by omega, by go_num, int_eq (wrap_add HR2.out HP.out HZ.out)⟩
        case measure => simp [intOf]; omega
    · obtain rfl : j = n := by omega
      go_wp2
      go_ret
      exact ⟨rfl, rfl⟩
theorem rleft_i (a x : Int) (ha : U64 a) (h0 : 0 ≤ x) (h1 : x ≤ 64) (w : World) : Calls Tryd.prog 30 #[.int .u64 a, .int .i64 x] w fun e w' => e = .returned (.int .u64 (lefV a x.toNat)) ∧ w = w' := by
  obtain ⟨k, rfl⟩ := Int.eq_ofNat_of_zero_le h0
  exact rleft_c a k ha (by omega) w
theorem rright_i (a x fill : Int) (n : Nat) (hn : n ≤ 64) (ha : 0 ≤ a) (ha2 : a < 2 ^ n) (h0 : 0 ≤ x) (h1 : x < 64) (h2 : x ≤ n) (hf : fill = 0 ∨ fill = 1) (w : World) :
    Calls Tryd.prog 31 #[.int .u64 a, .int .i64 n, .int .i64 x, .int .u64 fill] w fun e w' => e = .returned (.int .u64 (rigV a n x.toNat fill)) ∧ w = w' := by
  obtain ⟨k, rfl⟩ := Int.eq_ofNat_of_zero_le h0
  have hp : (2 : Int) ^ n ≤ 2 ^ 64 := two_pow_le hn
  have := rright_c a fill n k ⟨ha, by omega⟩ hn (by omega) hf w
  rw [rigK_all (by omega) ha ha2] at this
  exact this
theorem rr64 (a x fill : Int) (ha : U64 a) (hf : fill = 0 ∨ fill = 1) (h0 : 0 ≤ x) (h1 : x < 64) (w : World) :
    Calls Tryd.prog 31 #[.int .u64 a, .int .i64 64, .int .i64 x, .int .u64 fill] w fun e w' => e = .returned (.int .u64 (rigV a 64 x.toNat fill)) ∧ w = w' :=
  rright_i a x fill 64 (by decide) ha.1 (by unfold U64 at ha; omega) h0 h1 (by omega) hf w
theorem rr32 (a x fill : Int) (ha : 0 ≤ a ∧ a < 4294967296) (hf : fill = 0 ∨ fill = 1) (h0 : 0 ≤ x) (h1 : x < 32) (w : World) :
    Calls Tryd.prog 31 #[.int .u64 a, .int .i64 32, .int .i64 x, .int .u64 fill] w fun e w' => e = .returned (.int .u64 (rigV a 32 x.toNat fill)) ∧ w = w' :=
  rright_i a x fill 32 (by decide) ha.1 (by omega) h0 (by omega) (by omega) hf w
end Go.Proofs.YtoifkdjalddhkaaDoor
