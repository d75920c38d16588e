/- The contracts of Of, Oldest and Right, the program's and the document's. -/
import Derived.Test.YtdhooabamoehiaaRows
import Derived.Test.YtdhooabamoehiaaMd
import Derived.Test.YtdhooabamoehiaaPk
import Derived.WalkKit
import Derived.WalkLawsBesides
import Derived.Deep.QuietTactic
import Derived.BigQuiet
import Derived.WalkSmall
import Derived.WalkSpells
import Derived.Lib.Hide
import Derived.Laws.Externs
import Derived.Laws.FloatArith
import Derived.Laws.BitsAllLaws
import Derived.Deep.Cut
namespace Go.Proofs.Ytdhooabamoehiaa
open Go.RowKit

/-- Is one chosen of n things, and which. -/
def chB (n : Int) (b : Nat) : Bool := decide (1 ≤ n ∧ n ≤ 1048576) && !nanB b
def chV (n : Int) (b : Nat) : Int :=
  if chB n b then
    if b = 18442240474082181120 then 0 else if b = 9218868437227405312 then n - 1
    else if sgn b then n - 1 - ((stp (rng b) % n.toNat : Nat) : Int) else ((stp (rng b) % n.toNat : Nat) : Int)
  else 0
theorem chV_no {n : Int} {b : Nat} (h : chB n b = false) : chV n b = 0 := by unfold chV; rw [h]; rfl

theorem conv_flo (k : Nat) (hk : k ≤ 9007199254740992) (w : World) : (convert 22 3 (.float .f64 (flo k))).run Try.prog w = .ok (.int .i64 k) w := by
  refine run_convert_float_int (P := Try.prog) w 22 3 .f64 .i64 (flo k) (k : Int) (by kernel_rfl) (by kernel_rfl) ?_
  unfold floatToIntVal
  have h2 : (FloatKind.f64.decode (flo k)).integral .zero = .number false k 0 := by
    have h := whole .zero (.inr rfl) (flo_ok hk).1
    rw [(isS_flo hk).2] at h
    exact h
  have h3 : (FloatKind.f64.decode (flo k)).toInt .zero = some (k : Int) := by
    unfold Ieee.Datum.toInt
    rw [h2]
    simp only [signed_eq]
    unfold sg; simp
  rw [h3]
  simp only
  rw [if_pos]
  simp [IntKind.min, IntKind.max, IntKind.signed, IntKind.bits]; omega

theorem kinds {b : Nat} (hb : b < 18446744073709551616) (hn : nanB b = false) : b = 18442240474082181120 ∨ b = 9218868437227405312 ∨ (b ≠ 18442240474082181120 ∧ b ≠ 9218868437227405312 ∧ rng b < 9218868437227405312) := by
  unfold nanB rng at hn
  unfold rng
  by_cases h : 9223372036854775808 ≤ b
  · rw [if_pos h] at hn ⊢
    simp at hn
    omega
  · rw [if_neg h] at hn ⊢
    simp at hn
    omega

theorem of_any (n : Int) (b : Nat) (hb : b < 18446744073709551616) (w : World) :
    Calls Try.prog 9 #[.int .i64 n, .float .f64 b] w fun e w' => e = .returned (.tuple #[.int .i64 (chV n b), .bool (chB n b)]) ∧ w = w' := by
  by_cases h1 : n < 1
  · have HB : Hid (chB n b = false) := by show _ = _; unfold chB; rw [decide_eq_false (by omega)]; rfl
    have HV := Lib.hid (chV_no HB.out)
    go_enter Try.func9, Try.ntmps9
    go_wp2
    go_ret2
    exact ⟨ret_ib HV.out.symm HB.out.symm, rfl⟩
  by_cases h2 : 1048576 < n
  · have HB : Hid (chB n b = false) := by show _ = _; unfold chB; rw [decide_eq_false (by omega)]; rfl
    have HV := Lib.hid (chV_no HB.out)
    go_enter Try.func9, Try.ntmps9
    go_wp2
    go_ret2
    exact ⟨ret_ib HV.out.symm HB.out.symm, rfl⟩
  have hN := isnan_any b hb
  cases hn : nanB b
  · rw [hn] at hN
    have HB : Hid (chB n b = true) := by show _ = _; unfold chB; rw [decide_eq_true (by omega), hn]; rfl
    have hI1 := isinf_neg b hb
    have hI2 := isinf_pos b hb
    rcases kinds hb hn with h | h | ⟨h3, h4, h5⟩
    · have HV : Hid (chV n b = 0) := by show _ = _; unfold chV; rw [HB.out, if_pos rfl, if_pos h]
      rw [decide_eq_true h] at hI1
      have H0 := Lib.hid hn
      have H1 := Lib.hid h
      clear hn h hb hI2
      go_enter Try.func9, Try.ntmps9
      go_wp2_with (first
        | (go_at_call 19; refine (hN _).mono ?_; rintro e w' ⟨rfl, rfl⟩)
        | (go_at_call 20; with_reducible refine (hI1 _).mono ?_; rintro e w' ⟨rfl, rfl⟩))
      go_ret2
      exact ⟨ret_ib HV.out.symm HB.out.symm, rfl⟩
    · have HV : Hid (chV n b = n - 1) := by show _ = _; unfold chV; rw [HB.out, if_pos rfl, if_neg (by omega), if_pos h]
      rw [decide_eq_true h] at hI2
      rw [decide_eq_false (by omega)] at hI1
      have H0 := Lib.hid hn
      have H1 := Lib.hid h
      clear hn h hb
      go_enter Try.func9, Try.ntmps9
      go_wp2_with (first
        | (go_at_call 19; refine (hN _).mono ?_; rintro e w' ⟨rfl, rfl⟩)
        | (go_at_call 20; with_reducible refine (hI1 _).mono ?_; rintro e w' ⟨rfl, rfl⟩)
        | (go_at_call 20; with_reducible refine (hI2 _).mono ?_; rintro e w' ⟨rfl, rfl⟩))
      go_ret2
      exact ⟨ret_ib HV.out.symm HB.out.symm, rfl⟩
    · rw [decide_eq_false h3] at hI1
      rw [decide_eq_false h4] at hI2
      have hA := abs_any b hb
      have hF := floor_any (rng b) h5
      obtain ⟨m, hm⟩ : ∃ m : Nat, n = (m : Int) := ⟨n.toNat, by omega⟩
      have hM := mod_any (flo (stp (rng b))) m (stp (rng b)) (flo_stp h5).1 (flo_stp h5).2 (by omega) (by omega)
      have hlt : stp (rng b) % m < m := Nat.mod_lt _ (by omega)
      have hC := conv_flo (stp (rng b) % m) (by omega)
      have hS := signbit_any b hb
      have hD : floatOfInt .f64 n = flo m := by
        subst hm
        unfold floatOfInt flo
        show Ieee.double.nearest (decide ((m : Int) < 0)) (m : Int).natAbs 0 = _
        rw [show decide ((m : Int) < 0) = false by simp, Int.natAbs_natCast]
      have HV : Hid (chV n b = if sgn b then n - 1 - ((stp (rng b) % m : Nat) : Int) else ((stp (rng b) % m : Nat) : Int)) := by
        show _ = _
        unfold chV
        rw [HB.out, if_pos rfl, if_neg h3, if_neg h4, show n.toNat = m by omega]
      obtain ⟨c, hc⟩ : ∃ c : Int, ((stp (rng b) % m : Nat) : Int) = c := ⟨_, rfl⟩
      have hc0 : 0 ≤ c := by omega
      have hc1 : c < n := by omega
      rw [hc] at hC HV
      have HM := Lib.hid hm
      clear hb hn h3 h4 h5 hm hlt hc
      generalize flo (stp (rng b) % m) = z at *
      generalize flo (stp (rng b)) = y at *
      generalize flo m = v at *
      generalize rng b = a at *
      cases hs : sgn b
      · rw [hs] at hS HV
        have HS := Lib.hid hs
        clear hs
        go_enter Try.func9, Try.ntmps9
        go_wp2_with (first
          | (go_at_call 19; refine (hN _).mono ?_; rintro e w' ⟨rfl, rfl⟩)
          | (go_at_call 20; with_reducible refine (hI1 _).mono ?_; rintro e w' ⟨rfl, rfl⟩)
          | (go_at_call 20; with_reducible refine (hI2 _).mono ?_; rintro e w' ⟨rfl, rfl⟩)
          | (go_at_call 23; refine (hA _).mono ?_; rintro e w' ⟨rfl, rfl⟩)
          | (go_at_call 22; refine (hF _).mono ?_; rintro e w' ⟨rfl, rfl⟩)
          | (go_at_call 21; refine (hM _).mono ?_; rintro e w' ⟨rfl, rfl⟩)
          | (go_at_call 24; refine (hS _).mono ?_; rintro e w' ⟨rfl, rfl⟩))
        go_ret2
        exact ⟨ret_ib HV.out.symm HB.out.symm, rfl⟩
      · rw [hs] at hS HV
        have HS := Lib.hid hs
        clear hs
        go_enter Try.func9, Try.ntmps9
        go_wp2_with (first
          | (go_at_call 19; refine (hN _).mono ?_; rintro e w' ⟨rfl, rfl⟩)
          | (go_at_call 20; with_reducible refine (hI1 _).mono ?_; rintro e w' ⟨rfl, rfl⟩)
          | (go_at_call 20; with_reducible refine (hI2 _).mono ?_; rintro e w' ⟨rfl, rfl⟩)
          | (go_at_call 23; refine (hA _).mono ?_; rintro e w' ⟨rfl, rfl⟩)
          | (go_at_call 22; refine (hF _).mono ?_; rintro e w' ⟨rfl, rfl⟩)
          | (go_at_call 21; refine (hM _).mono ?_; rintro e w' ⟨rfl, rfl⟩)
          | (go_at_call 24; refine (hS _).mono ?_; rintro e w' ⟨rfl, rfl⟩))
        go_ret2
        exact ⟨ret_ib HV.out.symm HB.out.symm, rfl⟩
  · rw [hn] at hN
    have HB : Hid (chB n b = false) := by show _ = _; unfold chB; rw [hn]; simp
    have HV := Lib.hid (chV_no HB.out)
    have HN := Lib.hid hn
    clear hn
    go_enter Try.func9, Try.ntmps9
    go_wp2_with (first
      | (go_at_call 19; refine (hN _).mono ?_; rintro e w' ⟨rfl, rfl⟩))
    go_ret2
    exact ⟨ret_ib HV.out.symm HB.out.symm, rfl⟩
end Go.Proofs.Ytdhooabamoehiaa
