/- The program's small functions of package field, and the places of its formats. -/
import Derived.Test.YtbnacdhhacafkaaDoorRows
import Derived.Test.YtbnacdhhacafkaaDoorNum
import Derived.Test.YtbnacdhhacafkaaDoorBt
import Derived.Test.YtbnacdhhacafkaaDoorCf
import Derived.WalkKit
import Derived.WalkLawsBesides
import Derived.WalkSmall
import Derived.WalkSpells
import Derived.Lib.Hide
import Derived.Below
namespace Go.Proofs.YtbnacdhhacafkaaDoor
open Go.RowKit

theorem none_c (a b c : Int) (w : World) :
    Calls Tryd.prog 54 #[.agg #[.int .i64 a, .int .i64 b, .int .i64 c]] w fun e w' => e = .returned (.bool (a == 0)) ∧ Below w.heap.size w w' := by
  go_enter Tryd.func54, Tryd.ntmps54
  go_wp2
  go_ret
  exact ⟨rfl, (Below.refl _ _).alloc (Nat.le_refl _) _⟩
theorem known_yes (f : Int) (h : 1 ≤ f ∧ f ≤ 5) (w : World) :
    Calls Tryd.prog 53 #[.int .i64 f] w fun e w' => e = .returned (.bool true) ∧ w = w' := by
  obtain ⟨h1, h2⟩ := h
  go_enter Tryd.func53, Tryd.ntmps53
  go_wp2
  go_ret
  exact ⟨rfl, rfl⟩
theorem known_no (f : Int) (h : ¬ (1 ≤ f ∧ f ≤ 5)) (w : World) :
    Calls Tryd.prog 53 #[.int .i64 f] w fun e w' => e = .returned (.bool false) ∧ w = w' := by
  by_cases h1 : 1 ≤ f
  · have h2 : ¬ f ≤ 5 := fun g => h ⟨h1, g⟩
    clear h
    go_enter Tryd.func53, Tryd.ntmps53
    go_wp2
    go_ret
    exact ⟨rfl, rfl⟩
  · clear h
    go_enter Tryd.func53, Tryd.ntmps53
    go_wp2
    go_ret
    exact ⟨rfl, rfl⟩

/-- The cells of 'layouts'. -/
def tabL : List Int := [0,0,0,0,0,0,0,0,0,0,0,0, 31,20,0,0,0,0,0,0,0,0,0,0, 31,25,5,11,7,0,0,0,0,0,0,0, 31,31,12,7,7,11,30,25,5,11,8,1, 31,12,12,0,0,0,0,0,0,0,0,0, 31,31,20,19,12,12,20,20,11,30,21,1]
def Tab (w : World) : Prop := ∀ i, i < 72 → w.cell? ⟨19, i, none⟩ = some (.int .i64 (tabL.getD i 0))
theorem Tab.below {W w : World} (h : Tab W) (hb : Below W.heap.size W w) (hz : 19 < W.heap.size) : Tab w := fun i hi => by
  rw [hb.cell (p := ⟨19, i, none⟩) hz]; exact h i hi
/-- A run of bits that is free is laid by 'or' as by a sum. -/
theorem nor_free {a p : Nat} (lo n : Nat) (h : a / 2 ^ lo % 2 ^ n = 0) (hp : p < 2 ^ n) : a &&& (p * 2 ^ lo) = 0 := by
  apply Nat.eq_of_testBit_eq
  intro i
  rw [Nat.testBit_and, Nat.testBit_mul_two_pow, Nat.zero_testBit]
  by_cases h1 : lo ≤ i
  · by_cases h2 : i - lo < n
    · have := congrArg (fun x => Nat.testBit x (i - lo)) h
      simp only [Nat.testBit_mod_two_pow, Nat.testBit_div_two_pow, Nat.zero_testBit] at this
      rw [Nat.sub_add_cancel h1] at this
      simp [h2] at this
      rw [this]; rfl
    · rw [Nat.testBit_lt_two_pow (Nat.lt_of_lt_of_le hp (Nat.pow_le_pow_right (by decide) (by omega)))]; simp
  · simp [h1]
end Go.Proofs.YtbnacdhhacafkaaDoor
