/- The contracts of the program's Zext, Sext and Field: each is one function of numbers. -/
import Derived.Test.YtbnacdhhacafkaaDoorRows
import Derived.Test.YtbnacdhhacafkaaDoorNum
import Derived.WalkKit
import Derived.WalkLawsBesides
import Derived.Lib.Hide
namespace Go.Proofs.YtbnacdhhacafkaaDoor
open Go.RowKit




theorem zext_any (x n : Int) (h0 : 0 ≤ x) (h : x < 2 ^ 64) (w : World) :
    Calls Tryd.prog 52 #[.int .u64 x, .int .i64 n] w fun e w' => e = .returned (.int .u64 (zx x (cap64 n))) ∧ w = w' := by
  by_cases h1 : n < 1
  · go_enter Tryd.func52, Tryd.ntmps52
    go_wp2
    go_ret
    exact ⟨ret_int (by rw [show cap64 n = 0 by unfold cap64; omega, zx_zero]), rfl⟩
  · by_cases h2 : 64 < n
    · go_enter Tryd.func52, Tryd.ntmps52
      go_wp2
      go_ret
      exact ⟨ret_int (by rw [show cap64 n = 64 by unfold cap64; omega, zx_full x h0 h]), rfl⟩
    · have H := Lib.hid h; clear h
      go_enter Tryd.func52, Tryd.ntmps52
      go_wp2
      go_ret
      refine ⟨ret_int ?_, rfl⟩
      rw [show (64 - n).toNat = 64 - n.toNat by omega, show cap64 n = n.toNat by unfold cap64; omega]
      exact zx_wrap x n.toNat (by omega)

theorem sext_any (x n : Int) (h0 : 0 ≤ x) (h : x < 2 ^ 64) (w : World) :
    Calls Tryd.prog 55 #[.int .u64 x, .int .i64 n] w fun e w' => e = .returned (.int .u64 (sx x (cap64 n))) ∧ w = w' := by
  by_cases h1 : n < 1
  · go_enter Tryd.func55, Tryd.ntmps55
    go_wp2
    go_ret
    exact ⟨ret_int (by rw [show cap64 n = 0 by unfold cap64; omega]; rfl), rfl⟩
  · by_cases h2 : 64 < n
    · go_enter Tryd.func55, Tryd.ntmps55
      go_wp2
      go_ret
      refine ⟨ret_int ?_, rfl⟩
      rw [show cap64 n = 64 by unfold cap64; omega]
      unfold sx
      rw [zx_full x h0 h]
      split <;> omega
    · have H := Lib.hid h; clear h
      go_enter Tryd.func55, Tryd.ntmps55
      go_wp2
      go_ret
      refine ⟨ret_int ?_, rfl⟩
      rw [show (64 - n).toNat = 64 - n.toNat by omega, show cap64 n = n.toNat by unfold cap64; omega]
      rw [wrap64_eq]
      exact sx_wrap x h0 n.toNat (by omega) (by omega)

/-- The document's field: 0 where the places aren't right. -/
def fieldOf (w hi lo : Int) : Int := if 0 ≤ lo ∧ lo ≤ hi ∧ hi ≤ 31 then fld w hi.toNat lo.toNat else 0
theorem fieldOf_no {w hi lo : Int} (h : ¬ (0 ≤ lo ∧ lo ≤ hi ∧ hi ≤ 31)) : fieldOf w hi lo = 0 := if_neg h
theorem fieldOf_yes {w hi lo : Int} (h : 0 ≤ lo ∧ lo ≤ hi ∧ hi ≤ 31) : fieldOf w hi lo = fld w hi.toNat lo.toNat := if_pos h

theorem field_any (x hi lo : Int) (h0 : 0 ≤ x) (h : x < 2 ^ 32) (w : World) :
    Calls Tryd.prog 46 #[.int .u32 x, .int .i64 hi, .int .i64 lo] w fun e w' => e = .returned (.int .u32 (fieldOf x hi lo)) ∧ w = w' := by
  by_cases h1 : 31 < hi
  · have hf := fieldOf_no (w := x) (hi := hi) (lo := lo) (by omega)
    have HF := Lib.hid hf; clear hf
    go_enter Tryd.func46, Tryd.ntmps46
    go_wp2
    go_ret
    exact ⟨ret_int HF.out.symm, rfl⟩
  · by_cases h2 : lo < 0
    · have hf := fieldOf_no (w := x) (hi := hi) (lo := lo) (by omega)
      have HF := Lib.hid hf; clear hf
      go_enter Tryd.func46, Tryd.ntmps46
      go_wp2
      go_ret
      exact ⟨ret_int HF.out.symm, rfl⟩
    · by_cases h3 : hi < lo
      · have hf := fieldOf_no (w := x) (hi := hi) (lo := lo) (by omega)
        have HF := Lib.hid hf; clear hf
        go_enter Tryd.func46, Tryd.ntmps46
        go_wp2
        go_ret
        exact ⟨ret_int HF.out.symm, rfl⟩
      · obtain ⟨l, hl⟩ : ∃ l : Nat, lo = (l : Int) := ⟨lo.toNat, by omega⟩
        obtain ⟨k, hk⟩ : ∃ k : Nat, hi = (k : Int) := ⟨hi.toNat, by omega⟩
        subst hl hk
        have hf := fieldOf_yes (w := x) (hi := k) (lo := l) (by omega)
        have HF := Lib.hid hf; clear hf
        have H := Lib.hid h
        have hd := div_lt x l h0 h
        have HD := Lib.hid hd
        have hd0 := div_nonneg x l h0
        clear h hd
        have hw : IntKind.u64.wrap (x / 2 ^ l) = x / 2 ^ l := by rw [IntKind.wrap_u64]; have := HD.out; omega
        go_enter Tryd.func46, Tryd.ntmps46
        go_wp2_with (go_at_call 52; refine (zext_any _ _ hd0 (by have := HD.out; omega) _).mono ?_; rintro e w' ⟨rfl, rfl⟩)
        go_ret
        refine ⟨ret_int ?_, rfl⟩
        rw [HF.out, fld_zx, show cap64 ((k : Int) - l + 1) = k + 1 - l by unfold cap64; omega]
        have a := zx_nonneg (x / 2 ^ l) (k + 1 - l)
        have b := zx_lt (x / 2 ^ l) (k + 1 - l)
        have c : (2 : Int) ^ (k + 1 - l) ≤ 2 ^ 32 := two_pow_le (by omega)
        simp only [Int.toNat_natCast]
        omega

end Go.Proofs.YtbnacdhhacafkaaDoor
