/- The contracts of package math's few functions and of the moments that are no steps'. -/
import Derived.Test.YtbpcggoplacplaaRows
import Derived.Test.YtbpcggoplacplaaFl
import Derived.WalkKit
import Derived.WalkLawsBesides
import Derived.Deep.QuietTactic
import Derived.BigQuiet
import Derived.WalkSmall
import Derived.WalkSpells
import Derived.Lib.Hide
import Derived.Laws.Externs
import Derived.IntWalk
namespace Go.Proofs.Ytbpcggoplacplaa
open Go.RowKit

theorem ret_int {k : IntKind} {a b : Int} (h : a = b) : Ending.returned (.int k a) = .returned (.int k b) := by rw [h]
theorem int_eq {k : IntKind} {a b : Int} (h : a = b) : Value.int k a = Value.int k b := by rw [h]
theorem ret_bool {a b : Bool} (h : a = b) : Ending.returned (.bool a) = .returned (.bool b) := by rw [h]
theorem ret_float {k : FloatKind} {a b : Nat} (h : a = b) : Ending.returned (.float k a) = .returned (.float k b) := by rw [h]
theorem bool_eq {a b : Bool} (h : a = b) : Value.bool a = Value.bool b := by rw [h]

theorem wrap64_eq (x : Int) : wrap64 x = IntKind.i64.wrap x := (IntWalk.i64_left x).symm
theorem call_bits (b : Nat) (w : World) : (callFunc 27 #[.float .f64 b]).run Try.prog w = .ok (.value (.int .u64 b)) w := by
  rw [run_callFunc_extern Try.func27 (by kernel_rfl) (by kernel_rfl) (by kernel_rfl) (e := Extern.MathFloatBits.float64bits) (by kernel_rfl)]; rfl
theorem call_from (n : Int) (w : World) : (callFunc 35 #[.int .u64 n]).run Try.prog w = .ok (.value (.float .f64 n.toNat)) w := by
  rw [run_callFunc_extern Try.func35 (by kernel_rfl) (by kernel_rfl) (by kernel_rfl) (e := Extern.MathFloatBits.float64frombits) (by kernel_rfl)]; rfl

theorem isnan_any (b : Nat) (hb : b < 18446744073709551616) (w : World) :
    Calls Try.prog 24 #[.float .f64 b] w fun e w' => e = .returned (.bool (nanB b)) ∧ w = w' := by
  have H : Hid ((FloatKind.f64.format.order b b != some .eq) = nanB b) := ord_self hb
  go_enter Try.func24, Try.ntmps24
  go_wp2
  go_ret
  exact ⟨ret_bool H.out, rfl⟩

theorem signbit_any (b : Nat) (hb : b < 18446744073709551616) (w : World) :
    Calls Try.prog 25 #[.float .f64 b] w fun e w' => e = .returned (.bool (sgn b)) ∧ w = w' := by
  have hd := call_bits b
  have HS : Hid (decide (wrap64 (b : Int) < 0) = sgn b) := by
    show _ = _
    unfold sgn; rw [wrap64_eq, IntKind.wrap_i64, Bool.eq_iff_iff]; simp; omega
  go_enter Try.func25, Try.ntmps25
  go_wp2
  go_ret
  exact ⟨ret_bool HS.out, rfl⟩

theorem first_any (w : World) : Calls Try.prog 12 #[] w fun e w' => e = .returned (.float .f64 18442240474082181120) ∧ w = w' := by
  have hd := call_from 18442240474082181120
  go_enter Try.func12, Try.ntmps12
  go_wp2
  go_ret
  exact ⟨rfl, rfl⟩
theorem later_any (w : World) : Calls Try.prog 13 #[] w fun e w' => e = .returned (.float .f64 9218868437227405312) ∧ w = w' := by
  have hd := call_from 9218868437227405312
  go_enter Try.func13, Try.ntmps13
  go_wp2
  go_ret
  exact ⟨rfl, rfl⟩
theorem never_any (w : World) : Calls Try.prog 16 #[] w fun e w' => e = .returned (.float .f64 9221120237041090561) ∧ w = w' := by
  have hd := call_from 9221120237041090561
  go_enter Try.func16, Try.ntmps16
  go_wp2
  go_ret
  exact ⟨rfl, rfl⟩

/-- A moment's place in the order. -/
def rk (b : Nat) : Int := if nanB b then 18446744073709551615 else if sgn b then 9223372036854775807 - rng b else 9223372036854775808 + rng b
theorem rk_lt (b : Nat) (hb : b < 18446744073709551616) : 0 ≤ rk b ∧ rk b ≤ 18446744073709551615 := by
  have := rng_lt hb
  unfold rk nanB
  by_cases h : 9218868437227405312 < rng b
  · simp [h]
  · cases hs : sgn b <;> simp [h] <;> omega
def lessB (a b : Nat) : Bool := decide (rk a < rk b)
def sameB (a b : Nat) : Bool := decide (rk a = rk b)

end Go.Proofs.Ytbpcggoplacplaa
