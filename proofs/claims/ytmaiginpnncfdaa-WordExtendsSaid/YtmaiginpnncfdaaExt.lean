/- The contracts of Zext, Sext and Field, the program's and the document's: each is one function of numbers. -/
import Derived.Test.YtmaiginpnncfdaaRows
import Derived.Test.YtmaiginpnncfdaaNum
import Derived.WalkKit
import Derived.WalkLawsBesides
import Derived.Lib.Hide
namespace Go.Proofs.Ytmaiginpnncfdaa
open Go.RowKit




/-! ### Zext -/
theorem zext_any (x n : Int) (h0 : 0 ≤ x) (h : x < 2 ^ 64) (w : World) :
    Calls Try.prog 9 #[.int .u64 x, .int .i64 n] w fun e w' => e = .returned (.int .u64 (zx x (cap64 n))) ∧ w = w' := by
  by_cases h1 : n < 1
  · go_enter Try.func9, Try.ntmps9
    go_wp2
    go_ret
    exact ⟨ret_int (by rw [show cap64 n = 0 by unfold cap64; omega, zx_zero]), rfl⟩
  · by_cases h2 : 64 < n
    · go_enter Try.func9, Try.ntmps9
      go_wp2
      go_ret
      exact ⟨ret_int (by rw [show cap64 n = 64 by unfold cap64; omega, zx_full x h0 h]), rfl⟩
    · have H := Lib.hid h; clear h
      go_enter Try.func9, Try.ntmps9
      go_wp2
      go_ret
      refine ⟨ret_int ?_, rfl⟩
      rw [show (64 - n).toNat = 64 - n.toNat by omega, show cap64 n = n.toNat by unfold cap64; omega]
      exact zx_wrap x n.toNat (by omega)

theorem rzext_any (x n : Int) (h0 : 0 ≤ x) (h : x < 2 ^ 64) (w : World) :
    Calls Try.prog 10 #[.int .u64 x, .int .i64 n] w fun e w' => e = .returned (.int .u64 (zx x (cap64 n))) ∧ w = w' := by
  have H := Lib.hid h; clear h
  go_enter Try.func10, Try.ntmps10
  go_wp2
  go_loop [5, 6] (fun o i => ∃ k : Nat, k ≤ 64 ∧ (k : Int) ≤ max n 0 ∧ i = .int .i64 k ∧ o = .int .u64 (zx x k)) (fun _ i => 64 - (intOf i).toNat)
  case atStart => exact ⟨0, by omega, by omega, rfl, int_eq (zx_zero x).symm⟩
  case round =>
    obtain ⟨k, hk, hkn, rfl, rfl⟩ := hrel
    have z0 := zx_nonneg x k
    have z1 := zx_lt x k
    have hb : k < 64 → bits .and .u64 (x / 2 ^ k) 1 = x / 2 ^ k % 2 := fun _ => and1_u64 _ (div_nonneg x k h0) (div_lt x k h0 H.out)
    have HB := Lib.hid hb
    have Z0 := Lib.hid z0
    have Z1 := Lib.hid z1
    clear hb z0 z1
    go_wp2
    · go_round
      case rel =>
        refine ⟨k + 1, by omega, by omega, by go_num, int_eq ?_⟩
        have ht : (bits .and .u64 (x / 2 ^ k) 1 == 1) = true := by assumption
        have hk64 : (k : Int) < 64 := by assumption
        rw [HB.out (by omega), beq_iff_eq] at ht
        have := Z0.out
        have := Z1.out
        have hle : (2 : Int) ^ (k + 1) ≤ 2 ^ 64 := two_pow_le (by omega)
        rw [zx_succ x h0, ht, IntKind.wrap_u64, IntKind.wrap_u64]
        rw [two_pow_succ] at hle
        have hp := two_pow_pos k
        omega
      case measure => simp [intOf]; omega
    · go_round
      case rel =>
        refine ⟨k + 1, by omega, by omega, by go_num, int_eq ?_⟩
        have ht : (bits .and .u64 (x / 2 ^ k) 1 == 1) = false := by assumption
        have hk64 : (k : Int) < 64 := by assumption
        rw [HB.out (by omega), beq_eq_false_iff_ne] at ht
        rw [zx_succ x h0]
        have : x / 2 ^ k % 2 = 0 := by omega
        rw [this]; omega
      case measure => simp [intOf]; omega
    · have hn : n ≤ (k : Int) := by assumption
      go_ret
      exact ⟨ret_int (by rw [show cap64 n = k by unfold cap64; omega]), rfl⟩
    · have hn : 64 ≤ (k : Int) := by assumption
      go_ret
      exact ⟨ret_int (by rw [show cap64 n = k by unfold cap64; omega]), rfl⟩

/-! ### Sext -/
theorem sext_any (x n : Int) (h0 : 0 ≤ x) (h : x < 2 ^ 64) (w : World) :
    Calls Try.prog 11 #[.int .u64 x, .int .i64 n] w fun e w' => e = .returned (.int .u64 (sx x (cap64 n))) ∧ w = w' := by
  by_cases h1 : n < 1
  · go_enter Try.func11, Try.ntmps11
    go_wp2
    go_ret
    exact ⟨ret_int (by rw [show cap64 n = 0 by unfold cap64; omega]; rfl), rfl⟩
  · by_cases h2 : 64 < n
    · go_enter Try.func11, Try.ntmps11
      go_wp2
      go_ret
      refine ⟨ret_int ?_, rfl⟩
      rw [show cap64 n = 64 by unfold cap64; omega]
      unfold sx
      rw [zx_full x h0 h]
      split <;> omega
    · have H := Lib.hid h; clear h
      go_enter Try.func11, Try.ntmps11
      go_wp2
      go_ret
      refine ⟨ret_int ?_, rfl⟩
      rw [show (64 - n).toNat = 64 - n.toNat by omega, show cap64 n = n.toNat by unfold cap64; omega]
      rw [wrap64_eq]
      exact sx_wrap x h0 n.toNat (by omega) (by omega)

theorem rsext_any (x n : Int) (h0 : 0 ≤ x) (h : x < 2 ^ 64) (w : World) :
    Calls Try.prog 12 #[.int .u64 x, .int .i64 n] w fun e w' => e = .returned (.int .u64 (sx x (cap64 n))) ∧ w = w' := by
  have H := Lib.hid h
  have hz := rzext_any x n h0 h
  have HZ := Lib.hid hz; clear hz h
  by_cases h1 : n < 1
  · go_enter Try.func12, Try.ntmps12
    go_wp2_with (go_at_call 10; refine (HZ.out _).mono ?_; rintro e w' ⟨rfl, rfl⟩)
    go_ret
    exact ⟨ret_int (by rw [show cap64 n = 0 by unfold cap64; omega, zx_zero]; rfl), rfl⟩
  · by_cases h2 : 64 < n
    · go_enter Try.func12, Try.ntmps12
      go_wp2_with (go_at_call 10; refine (HZ.out _).mono ?_; rintro e w' ⟨rfl, rfl⟩)
      go_ret
      refine ⟨ret_int ?_, rfl⟩
      rw [show cap64 n = 64 by unfold cap64; omega]
      unfold sx
      rw [zx_full x h0 H.out]
      split <;> omega
    · obtain ⟨m, hm⟩ : ∃ m : Nat, n = (m : Int) := ⟨n.toNat, by omega⟩
      subst hm
      have hc : cap64 (m : Int) = m := by unfold cap64; omega
      have HC := Lib.hid hc; clear hc
      have hb : bits .and .u64 (x / 2 ^ (m - 1)) 1 = x / 2 ^ (m - 1) % 2 := and1_u64 _ (div_nonneg x _ h0) (div_lt x _ h0 H.out)
      have hbit := Int.emod_two_eq (x / 2 ^ (m - 1))
      by_cases hb1 : x / 2 ^ (m - 1) % 2 = 1
      · have ht : (bits .and .u64 (x / 2 ^ (m - 1)) 1 == 0) = false := by rw [hb, hb1]; rfl
        have HB := Lib.hid hb1
        clear hb hbit hb1
        have e1 : ((m : Int) - 1).toNat = m - 1 := by omega
        go_enter Try.func12, Try.ntmps12
        go_wp2_with (go_at_call 10; refine (HZ.out _).mono ?_; rintro e w' ⟨rfl, rfl⟩)
        go_loop [5, 6] (fun o i => ∃ k : Nat, m ≤ k ∧ k ≤ 64 ∧ i = .int .i64 k ∧ o = .int .u64 (zx x m + (2 ^ k - 2 ^ m))) (fun _ i => 64 - (intOf i).toNat)
        case atStart => exact ⟨m, by omega, by omega, rfl, int_eq (by rw [HC.out]; omega)⟩
        case round =>
          obtain ⟨k, hmk, hk, rfl, rfl⟩ := hrel
          go_wp2
          · go_round
            case rel =>
              refine ⟨k + 1, by omega, by omega, by go_num, int_eq ?_⟩
              have hk64 : (k : Int) < 64 := by assumption
              have hle : (2 : Int) ^ (k + 1) ≤ 2 ^ 64 := two_pow_le (by omega)
              have hle2 : (2 : Int) ^ m ≤ 2 ^ k := two_pow_le (by omega)
              have := zx_nonneg x m
              have := zx_lt x m
              rw [IntKind.wrap_u64, IntKind.wrap_u64]
              rw [two_pow_succ] at hle ⊢
              have hp := two_pow_pos k
              omega
            case measure => simp [intOf]; omega
          · have hn : 64 ≤ (k : Int) := by assumption
            go_ret
            refine ⟨ret_int ?_, rfl⟩
            rw [HC.out, show k = 64 by omega]
            unfold sx
            rw [if_neg (by omega), if_pos HB.out]
      · have ht : (bits .and .u64 (x / 2 ^ (m - 1)) 1 == 0) = true := by rw [hb, show x / 2 ^ (m - 1) % 2 = 0 by omega]; rfl
        have HB := Lib.hid hb1
        clear hb hbit hb1
        have e1 : ((m : Int) - 1).toNat = m - 1 := by omega
        go_enter Try.func12, Try.ntmps12
        go_wp2_with (go_at_call 10; refine (HZ.out _).mono ?_; rintro e w' ⟨rfl, rfl⟩)
        go_ret
        refine ⟨ret_int ?_, rfl⟩
        rw [HC.out]
        unfold sx
        rw [if_neg (by omega), if_neg HB.out]

/-! ### Field -/
/-- The document's field: 0 where the places aren't right. -/
def fieldOf (w hi lo : Int) : Int := if 0 ≤ lo ∧ lo ≤ hi ∧ hi ≤ 31 then fld w hi.toNat lo.toNat else 0
theorem fieldOf_no {w hi lo : Int} (h : ¬ (0 ≤ lo ∧ lo ≤ hi ∧ hi ≤ 31)) : fieldOf w hi lo = 0 := if_neg h
theorem fieldOf_yes {w hi lo : Int} (h : 0 ≤ lo ∧ lo ≤ hi ∧ hi ≤ 31) : fieldOf w hi lo = fld w hi.toNat lo.toNat := if_pos h

theorem field_any (x hi lo : Int) (h0 : 0 ≤ x) (h : x < 2 ^ 32) (w : World) :
    Calls Try.prog 13 #[.int .u32 x, .int .i64 hi, .int .i64 lo] w fun e w' => e = .returned (.int .u32 (fieldOf x hi lo)) ∧ w = w' := by
  by_cases h1 : 31 < hi
  · have hf := fieldOf_no (w := x) (hi := hi) (lo := lo) (by omega)
    have HF := Lib.hid hf; clear hf
    go_enter Try.func13, Try.ntmps13
    go_wp2
    go_ret
    exact ⟨ret_int HF.out.symm, rfl⟩
  · by_cases h2 : lo < 0
    · have hf := fieldOf_no (w := x) (hi := hi) (lo := lo) (by omega)
      have HF := Lib.hid hf; clear hf
      go_enter Try.func13, Try.ntmps13
      go_wp2
      go_ret
      exact ⟨ret_int HF.out.symm, rfl⟩
    · by_cases h3 : hi < lo
      · have hf := fieldOf_no (w := x) (hi := hi) (lo := lo) (by omega)
        have HF := Lib.hid hf; clear hf
        go_enter Try.func13, Try.ntmps13
        go_wp2
        go_ret
        exact ⟨ret_int HF.out.symm, rfl⟩
      · obtain ⟨l, hl⟩ : ∃ l : Nat, lo = (l : Int) := ⟨lo.toNat, by omega⟩
        obtain ⟨k, hk⟩ : ∃ k : Nat, hi = (k : Int) := ⟨hi.toNat, by omega⟩
        subst hl hk
        have hf := fieldOf_yes (w := x) (hi := k) (lo := l) (by omega)
        have HF := Lib.hid hf; clear hf
        have H := Lib.hid h
        have hd := div_lt x l h0 h
        have HD := Lib.hid hd
        have hd0 := div_nonneg x l h0
        clear h hd
        have hw : IntKind.u64.wrap (x / 2 ^ l) = x / 2 ^ l := by rw [IntKind.wrap_u64]; have := HD.out; omega
        go_enter Try.func13, Try.ntmps13
        go_wp2_with (go_at_call 9; refine (zext_any _ _ hd0 (by have := HD.out; omega) _).mono ?_; rintro e w' ⟨rfl, rfl⟩)
        go_ret
        refine ⟨ret_int ?_, rfl⟩
        rw [HF.out, fld_zx, show cap64 ((k : Int) - l + 1) = k + 1 - l by unfold cap64; omega]
        have a := zx_nonneg (x / 2 ^ l) (k + 1 - l)
        have b := zx_lt (x / 2 ^ l) (k + 1 - l)
        have c : (2 : Int) ^ (k + 1 - l) ≤ 2 ^ 32 := two_pow_le (by omega)
        simp only [Int.toNat_natCast]
        omega

theorem rfield_any (x hi lo : Int) (h0 : 0 ≤ x) (h : x < 2 ^ 32) (w : World) :
    Calls Try.prog 14 #[.int .u32 x, .int .i64 hi, .int .i64 lo] w fun e w' => e = .returned (.int .u32 (fieldOf x hi lo)) ∧ w = w' := by
  by_cases h2 : lo < 0
  · have hf := fieldOf_no (w := x) (hi := hi) (lo := lo) (by omega)
    have HF := Lib.hid hf; clear hf
    go_enter Try.func14, Try.ntmps14
    go_wp2
    go_ret
    exact ⟨ret_int HF.out.symm, rfl⟩
  · by_cases h1 : 31 < hi
    · have hf := fieldOf_no (w := x) (hi := hi) (lo := lo) (by omega)
      have HF := Lib.hid hf; clear hf
      go_enter Try.func14, Try.ntmps14
      go_wp2
      go_ret
      exact ⟨ret_int HF.out.symm, rfl⟩
    · by_cases h3 : hi < lo
      · have hf := fieldOf_no (w := x) (hi := hi) (lo := lo) (by omega)
        have HF := Lib.hid hf; clear hf
        go_enter Try.func14, Try.ntmps14
        go_wp2
        go_ret
        exact ⟨ret_int HF.out.symm, rfl⟩
      · obtain ⟨l, hl⟩ : ∃ l : Nat, lo = (l : Int) := ⟨lo.toNat, by omega⟩
        obtain ⟨k, hk⟩ : ∃ k : Nat, hi = (k : Int) := ⟨hi.toNat, by omega⟩
        subst hl hk
        have hf := fieldOf_yes (w := x) (hi := k) (lo := l) (by omega)
        have HF := Lib.hid hf; clear hf
        have H := Lib.hid h
        clear h
        go_enter Try.func14, Try.ntmps14
        go_wp2
        go_loop [7, 8] (fun o i => ∃ j : Int, (l : Int) - 1 ≤ j ∧ j ≤ k ∧ i = .int .i64 j ∧ o = .int .u32 (fld x k (j + 1).toNat)) (fun _ i => (intOf i + 1).toNat)
        case atStart => exact ⟨k, by omega, by omega, rfl, int_eq (by rw [show ((k : Int) + 1).toNat = k + 1 by omega, fld_top])⟩
        case round =>
          obtain ⟨j, hj, hjk, rfl, rfl⟩ := hrel
          by_cases hlj : (l : Int) ≤ j
          · obtain ⟨i, hi⟩ : ∃ i : Nat, j = (i : Int) := ⟨j.toNat, by omega⟩
            subst hi
            have ei : ((i : Int) + 1).toNat = i + 1 := by omega
            have hb : bits .and .u32 (x / 2 ^ i) 1 = x / 2 ^ i % 2 := and1_u32 _ (div_nonneg x i h0) (div_lt x i h0 H.out)
            go_wp2
            go_round
            case rel =>
              refine ⟨(i : Int) - 1, by omega, by omega, rfl, int_eq ?_⟩
              have hs := fld_step x h0 k i (by omega)
              have a := zx_nonneg (x / 2 ^ i) (k + 1 - i)
              have b := zx_lt (x / 2 ^ i) (k + 1 - i)
              rw [← fld_zx] at a b
              have a' := zx_nonneg (x / 2 ^ (i + 1)) (k + 1 - (i + 1))
              rw [← fld_zx] at a'
              have c : (2 : Int) ^ (k + 1 - i) ≤ 2 ^ 32 := two_pow_le (by omega)
              rw [show ((i : Int) - 1 + 1).toNat = i by omega, ← hs]
              omega
            case measure => simp [intOf]
          · go_wp2
            go_ret
            refine ⟨ret_int ?_, rfl⟩
            rw [HF.out, show (j + 1).toNat = l by omega]
            rfl
end Go.Proofs.Ytmaiginpnncfdaa
