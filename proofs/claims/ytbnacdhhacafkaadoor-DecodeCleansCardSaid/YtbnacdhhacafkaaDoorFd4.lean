/- The contracts of the program's Put, Get and Mask. -/
import Derived.Test.YtbnacdhhacafkaaDoorRows
import Derived.Test.YtbnacdhhacafkaaDoorSp
import Derived.Test.YtbnacdhhacafkaaDoorGt
import Derived.Test.YtbnacdhhacafkaaDoorMy
import Derived.Test.YtbnacdhhacafkaaDoorBk
import Derived.WalkKit
import Derived.WalkLawsBesides
import Derived.WalkSmall
import Derived.WalkSpells
import Derived.Lib.Hide
import Derived.Below
namespace Go.Proofs.YtbnacdhhacafkaaDoor
open Go.RowKit

theorem ret_ub {a c : Int} {b d : Bool} (h : a = c) (g : b = d) : Ending.returned (.tuple #[.int .u32 a, .bool b]) = .returned (.tuple #[.int .u32 c, .bool d]) := by rw [h, g]
def putV (f x : Int) : Int := if mayB f x then putK f (x % 18446744073709551616) 32 else 0
theorem Tab.pos {w : World} (h : Tab w) : 19 < w.heap.size := World.block_lt_of_cell? w _ (h 0 (by decide))
theorem getK_no {f : Int} (h : ¬ (1 ≤ f ∧ f ≤ 5)) (v : Int) : getK f v 32 = 0 := by
  have := getK_gap (f := f) (w := v) 0 32 (fun i _ => plc_no h _)
  rw [Nat.zero_add] at this; rw [this]; rfl
theorem putK_no {f : Int} (h : ¬ (1 ≤ f ∧ f ≤ 5)) (v : Int) : putK f v 32 = 0 := by
  have := putK_gap (f := f) (u := v) 0 32 (fun i _ => plc_no h _)
  rw [Nat.zero_add] at this; rw [this]; rfl
theorem may_no {f : Int} (h : ¬ (1 ≤ f ∧ f ≤ 5)) (x : Int) : mayB f x = false := decide_eq_false (by unfold May; omega)

theorem get_c (f v : Int) (hv0 : 0 ≤ v) (hv1 : v < 4294967296) (w : World) (hT : Tab w) :
    Calls Tryd.prog 47 #[.int .i64 f, .int .u32 v] w fun e w' => e = .returned (.int .i64 (getK f v 32)) ∧ Below w.heap.size w w' := by
  by_cases h : 1 ≤ f ∧ f ≤ 5
  · have hf : f = 1 ∨ f = 2 ∨ f = 3 ∨ f = 4 ∨ f = 5 := by omega
    rcases hf with rfl | rfl | rfl | rfl | rfl
    · exact get1_c v w hv0 hv1 hT
    · exact get2_c v w hv0 hv1 hT
    · exact get3_c v w hv0 hv1 hT
    · exact get4_c v w hv0 hv1 hT
    · exact get5_c v w hv0 hv1 hT
  · rw [getK_no h]
    have HK := fun w => known_no f h w
    clear h hT hv1
    go_enter Tryd.func47, Tryd.ntmps47
    go_wp2
    go_step3
    go_wp2_with (first
      | (go_at_call 53; refine (HK _).mono ?_; rintro e w' ⟨rfl, rfl⟩))
    try rw [Exit.noGoto_ret]
    go_ret
    exact ⟨rfl, Below.refl _ _⟩
/-- Bits above the low 32 are in no word. -/
theorem putK_low (f : Int) {u : Int} (hu : 0 ≤ u) : ∀ k : Nat, k ≤ 32 → putK f (u % 4294967296) k = putK f u k
  | 0, _ => rfl
  | k + 1, hk => by
    rw [putK_succ, putK_succ, putK_low f hu k (by omega)]
    have hr := plc_range f k (by omega)
    by_cases h0 : 0 ≤ plc f k
    · obtain ⟨n, hn⟩ : ∃ n : Nat, (plc f k).toNat = n := ⟨_, rfl⟩
      rw [hn]
      have hn31 : n ≤ 31 := by omega
      have e : u % 4294967296 / 2 ^ n % 2 = u / 2 ^ n % 2 := by
        obtain ⟨a, rfl⟩ := Int.eq_ofNat_of_zero_le hu
        have h := Nat.testBit_mod_two_pow a 32 n
        have hl : n < 32 := by omega
        simp only [hl, decide_true, Bool.true_and] at h
        rw [Nat.testBit_eq_decide_div_mod_eq, Nat.testBit_eq_decide_div_mod_eq] at h
        have h2 : (a % 2 ^ 32 / 2 ^ n % 2 = 1) ↔ (a / 2 ^ n % 2 = 1) := by simpa using h
        have h3 : a % 2 ^ 32 / 2 ^ n % 2 = a / 2 ^ n % 2 := by
          have := Nat.mod_two_eq_zero_or_one (a % 2 ^ 32 / 2 ^ n)
          have := Nat.mod_two_eq_zero_or_one (a / 2 ^ n)
          omega
        have h4 : ((a % 2 ^ 32 / 2 ^ n % 2 : Nat) : Int) = ((a / 2 ^ n % 2 : Nat) : Int) := by rw [h3]
        simp only [Int.natCast_emod, Int.natCast_ediv, Int.natCast_pow, Int.cast_ofNat_Int] at h4
        exact h4
      rw [e]
    · rw [if_neg (fun g => h0 g.1), if_neg (fun g => h0 g.1)]
theorem mask_all (f : Int) : putK f 4294967295 32 = mskK f 32 := by
  by_cases h : 1 ≤ f ∧ f ≤ 5
  · have hf : f = 1 ∨ f = 2 ∨ f = 3 ∨ f = 4 ∨ f = 5 := by omega
    rcases hf with rfl | rfl | rfl | rfl | rfl
    · rw [put1 (by decide), msk1]; decide
    · rw [put2 (by decide), msk2]; decide
    · rw [put3 (by decide), msk3]; decide
    · rw [put4 (by decide), msk4]; decide
    · rw [put5 (by decide), msk5]; decide
  · rw [putK_no h]
    have := mskK_gap (f := f) 0 32 (fun i _ => plc_no h _)
    rw [Nat.zero_add] at this; rw [this]; rfl
end Go.Proofs.YtbnacdhhacafkaaDoor
