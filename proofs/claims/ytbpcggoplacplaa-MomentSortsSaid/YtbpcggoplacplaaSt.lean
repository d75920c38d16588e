/- The contracts of Of and Step, the program's and the document's, and of Floor where it is asked. -/
import Derived.Test.YtbpcggoplacplaaRows
import Derived.Test.YtbpcggoplacplaaFl
import Derived.Test.YtbpcggoplacplaaPr
import Derived.Test.YtbpcggoplacplaaLs
import Derived.WalkKit
import Derived.WalkLawsBesides
import Derived.Deep.QuietTactic
import Derived.BigQuiet
import Derived.WalkSmall
import Derived.WalkSpells
import Derived.Lib.Hide
import Derived.Laws.Externs
import Derived.Laws.BitsAllLaws
namespace Go.Proofs.Ytbpcggoplacplaa
open Go.RowKit

def ofF (n : Int) : Nat := if 0 ≤ n ∧ n ≤ 9007199254740992 then flo n.toNat else 9221120237041090561
def ofB (n : Int) : Bool := decide (0 ≤ n ∧ n ≤ 9007199254740992)
theorem ret_fb {a c : Nat} {b d : Bool} (h : a = c) (g : b = d) : Ending.returned (.tuple #[.float .f64 a, .bool b]) = .returned (.tuple #[.float .f64 c, .bool d]) := by rw [h, g]
theorem ret_ib {a c : Int} {b d : Bool} (h : a = c) (g : b = d) : Ending.returned (.tuple #[.int .i64 a, .bool b]) = .returned (.tuple #[.int .i64 c, .bool d]) := by rw [h, g]

theorem of_any (n : Int) (w : World) :
    Calls Try.prog 9 #[.int .i64 n] w fun e w' => e = .returned (.tuple #[.float .f64 (ofF n), .bool (ofB n)]) ∧ w = w' := by
  by_cases h : 0 ≤ n ∧ n ≤ 9007199254740992
  · obtain ⟨h0, h1⟩ := h
    have HF : Hid (floatOfInt .f64 n = ofF n) := by
      show _ = _
      unfold ofF; rw [if_pos ⟨h0, h1⟩]
      unfold floatOfInt flo
      show Ieee.double.nearest (decide (n < 0)) n.natAbs 0 = _
      rw [show decide (n < 0) = false by simp; omega, show n.natAbs = n.toNat by omega]
    have HB : Hid (true = ofB n) := by show _ = _; unfold ofB; symm; simp; omega
    go_enter Try.func9, Try.ntmps9
    go_wp2
    go_ret2
    exact ⟨ret_fb HF.out HB.out, rfl⟩
  · have HF : Hid (9221120237041090561 = ofF n) := by show _ = _; unfold ofF; rw [if_neg h]
    have HB : Hid (false = ofB n) := by show _ = _; unfold ofB; symm; simpa using h
    have hc : n < 0 ∨ 9007199254740992 < n := by omega
    clear h
    rcases hc with hc | hc
    · go_enter Try.func9, Try.ntmps9
      go_wp2_with (first
        | (go_at_call 16; refine (never_any _).mono ?_; rintro e w' ⟨rfl, rfl⟩))
      go_ret2
      exact ⟨ret_fb HF.out HB.out, rfl⟩
    · have hc' : ¬ n < 0 := by omega
      go_enter Try.func9, Try.ntmps9
      go_wp2_with (first
        | (go_at_call 16; refine (never_any _).mono ?_; rintro e w' ⟨rfl, rfl⟩))
      go_ret2
      exact ⟨ret_fb HF.out HB.out, rfl⟩

theorem read_num {b : Nat} (hb : b ≤ 4845873199050653696) : FloatKind.f64.decode b = .number false (DD b) (-1074 + (PP b : Int)) := by
  have hlt : b < 18446744073709551616 := by omega
  have e0 : rng b = b := by unfold rng; rw [if_neg]; omega
  have e1 : sgn b = false := by unfold sgn; simp; omega
  show Ieee.double.read b = _
  rw [read_eq hlt, e0, e1, if_pos (by omega)]
theorem call_floor (b : Nat) (hb : b ≤ 4845873199050653696) (w : World) : (callFunc 33 #[.float .f64 b]).run Try.prog w = .ok (.value (.float .f64 (flo (stp b)))) w := by
  rw [run_callFunc_extern Try.func33 (by kernel_rfl) (by kernel_rfl) (by kernel_rfl) (e := Extern.MathFloor.toIntegral "math.archFloor" .down) (by kernel_rfl)]
  have h1 := read_num hb
  have h2 : (FloatKind.f64.decode b).integral .down = .number false (stp b) 0 := whole .down (.inl rfl) hb
  rw [h1] at h2
  change (Sem.run Try.prog (Extern.MathFloor.toIntegral.match_1 (fun _ => Sem Value) (FloatKind.f64.decode b) _ _) w).andThen _ = _
  rw [h1]
  refine Eq.trans (b := (Sem.run Try.prog (pure (Value.float .f64 (FloatKind.f64.encode ((Ieee.Datum.number false (DD b) (-1074 + (PP b : Int))).integral .down)))) w).andThen _) rfl ?_
  rw [h2]
  rfl
theorem floor_any (b : Nat) (hb : b ≤ 4845873199050653696) (w : World) :
    Calls Try.prog 26 #[.float .f64 b] w fun e w' => e = .returned (.float .f64 (flo (stp b))) ∧ w = w' := by
  have hd := call_floor b hb
  go_enter Try.func26, Try.ntmps26
  go_wp2
  go_ret
  exact ⟨rfl, rfl⟩
theorem conv_step (b : Nat) (hb : b ≤ 4845873199050653696) (w : World) : (convert 22 3 (.float .f64 b)).run Try.prog w = .ok (.int .i64 (stp b)) w := by
  refine run_convert_float_int (P := Try.prog) w 22 3 .f64 .i64 b (stp b) (by kernel_rfl) (by kernel_rfl) ?_
  unfold floatToIntVal
  have h2 : (FloatKind.f64.decode b).integral .zero = .number false (stp b) 0 := whole .zero (.inr rfl) hb
  have hs := stp_le hb
  have h3 : (FloatKind.f64.decode b).toInt .zero = some (stp b : Int) := by
    unfold Ieee.Datum.toInt
    rw [h2]
    simp only [signed_eq]
    unfold sg; simp
  rw [h3]
  simp only
  rw [if_pos]
  simp [IntKind.min, IntKind.max, IntKind.signed, IntKind.bits]; omega

def stV (b : Nat) : Int := if isS b then stp b else 0
theorem stV_no {b : Nat} (h : isS b = false) : stV b = 0 := by unfold stV; rw [h]; rfl
theorem isS_big {b : Nat} (h : 4845873199050653696 < b) : isS b = false := by unfold isS; simp; omega

theorem step_any (b : Nat) (hb : b < 18446744073709551616) (w : World) :
    Calls Try.prog 10 #[.float .f64 b] w fun e w' => e = .returned (.tuple #[.int .i64 (stV b), .bool (isS b)]) ∧ w = w' := by
  by_cases hbig : 4845873199050653696 < b
  · have HV := Lib.hid (stV_no (isS_big hbig))
    have HS := Lib.hid (isS_big hbig)
    cases nb : nanB b
    · cases sb : sgn b
      · have hg : (FloatKind.f64.format.order b 4845873199050653696 == some .gt) = true := by
          refine (ord_gt hb (by decide)).trans ?_
          rw [nb, show nanB 4845873199050653696 = false by decide]
          unfold sgn at sb
          simp at sb
          rw [show ky 4845873199050653696 = 4845873199050653696 by decide]
          unfold ky rng
          rw [if_neg (by omega), if_neg (by omega)]
          simp; omega
        clear hbig
        go_enter Try.func10, Try.ntmps10
        go_wp2_with (first
          | (go_at_call 24; refine (isnan_any _ (by assumption) _).mono ?_; rintro e w' ⟨rfl, rfl⟩)
          | (go_at_call 25; refine (signbit_any _ (by assumption) _).mono ?_; rintro e w' ⟨rfl, rfl⟩))
        go_ret2
        exact ⟨ret_ib HV.out.symm HS.out.symm, rfl⟩
      · clear hbig
        go_enter Try.func10, Try.ntmps10
        go_wp2_with (first
          | (go_at_call 24; refine (isnan_any _ (by assumption) _).mono ?_; rintro e w' ⟨rfl, rfl⟩)
          | (go_at_call 25; refine (signbit_any _ (by assumption) _).mono ?_; rintro e w' ⟨rfl, rfl⟩))
        go_ret2
        exact ⟨ret_ib HV.out.symm HS.out.symm, rfl⟩
    · clear hbig
      go_enter Try.func10, Try.ntmps10
      go_wp2_with (first
        | (go_at_call 24; refine (isnan_any _ (by assumption) _).mono ?_; rintro e w' ⟨rfl, rfl⟩)
        | (go_at_call 25; refine (signbit_any _ (by assumption) _).mono ?_; rintro e w' ⟨rfl, rfl⟩))
      go_ret2
      exact ⟨ret_ib HV.out.symm HS.out.symm, rfl⟩
  · have hle : b ≤ 4845873199050653696 := by omega
    have e0 : rng b = b := by unfold rng; rw [if_neg]; omega
    have nb : nanB b = false := by unfold nanB; rw [e0]; simp; omega
    have sb : sgn b = false := by unfold sgn; simp; omega
    have kb : ky b = b := by unfold ky; rw [if_neg (by omega), e0]
    have hs := stp_le hle
    have hf := (flo_ok hs).1
    have e1 : rng (flo (stp b)) = flo (stp b) := by unfold rng; rw [if_neg]; omega
    have nf : nanB (flo (stp b)) = false := by unfold nanB; rw [e1]; simp; omega
    have kf : ky (flo (stp b)) = flo (stp b) := by unfold ky; rw [if_neg (by omega), e1]
    have hg : (FloatKind.f64.format.order b 4845873199050653696 == some .gt) = false := by
      refine (ord_gt hb (by decide)).trans ?_
      rw [nb, show nanB 4845873199050653696 = false by decide, kb, show ky 4845873199050653696 = 4845873199050653696 by decide]
      simp; omega
    have hn : (FloatKind.f64.format.order b (flo (stp b)) != some .eq) = !isS b := by
      unfold bne
      refine congrArg (!·) ((ord_eq hb (by omega)).trans ?_)
      rw [nb, nf, kb, kf]
      have := isS_floor hle
      rw [Bool.eq_iff_iff, ← this]; simp; omega
    have hcv := conv_step b hle
    clear e0 kb hs hf e1 nf kf hbig
    cases hi : isS b
    · have HV := Lib.hid (stV_no hi)
      rw [hi] at hn
      have hn' : (FloatKind.f64.format.order b (flo (stp b)) != some .eq) = true := hn
      clear hn hi
      go_enter Try.func10, Try.ntmps10
      go_wp2_with (first
        | (go_at_call 24; refine (isnan_any _ (by assumption) _).mono ?_; rintro e w' ⟨rfl, rfl⟩)
        | (go_at_call 25; refine (signbit_any _ (by assumption) _).mono ?_; rintro e w' ⟨rfl, rfl⟩)
        | (go_at_call 26; refine (floor_any _ (by assumption) _).mono ?_; rintro e w' ⟨rfl, rfl⟩))
      go_ret2
      exact ⟨ret_ib HV.out.symm rfl, rfl⟩
    · have HV : Hid ((stp b : Int) = stV b) := by show _ = _; unfold stV; rw [hi]; rfl
      rw [hi] at hn
      have hn' : (FloatKind.f64.format.order b (flo (stp b)) != some .eq) = false := hn
      clear hn hi
      go_enter Try.func10, Try.ntmps10
      go_wp2_with (first
        | (go_at_call 24; refine (isnan_any _ (by assumption) _).mono ?_; rintro e w' ⟨rfl, rfl⟩)
        | (go_at_call 25; refine (signbit_any _ (by assumption) _).mono ?_; rintro e w' ⟨rfl, rfl⟩)
        | (go_at_call 26; refine (floor_any _ (by assumption) _).mono ?_; rintro e w' ⟨rfl, rfl⟩))
      go_ret2
      exact ⟨ret_ib HV.out rfl, rfl⟩

end Go.Proofs.Ytbpcggoplacplaa
