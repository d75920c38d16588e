/- The contract of package math's remainder, of whole numbers by small ones. -/
import Derived.Test.YtdhooabamoehiaaRows
import Derived.Test.YtdhooabamoehiaaPr
import Derived.WalkKit
import Derived.WalkLawsBesides
import Derived.Deep.QuietTactic
import Derived.BigQuiet
import Derived.WalkSmall
import Derived.WalkSpells
import Derived.Lib.Hide
import Derived.Laws.Externs
import Derived.Laws.FloatArith
import Derived.Laws.BitsAllLaws
namespace Go.Proofs.Ytdhooabamoehiaa
open Go.RowKit

def wdOf : Value → Nat
  | .float _ b => b
  | _ => 0

theorem gt_words {a b : Nat} (ha : a < 9218868437227405312) (hb : b < 9218868437227405312) : (FloatKind.f64.format.order a b == some .gt) = decide (b < a) := by
  obtain ⟨_, _, na, ka⟩ := sgn_low ha
  obtain ⟨_, _, nb, kb⟩ := sgn_low hb
  refine (ord_gt (by omega) (by omega)).trans ?_
  rw [na, nb, ka, kb, Bool.eq_iff_iff]; simp
theorem mod_walk (x y res : Nat) (hx : x < 9218868437227405312) (hy0 : 4607182418800017408 ≤ y) (hy1 : y < 9218868437227405312)
    (hres : ∀ r, r < y → MM r % MM y = MM x % MM y → r = res) (w : World) :
    Calls Try.prog 29 #[.float .f64 x, .float .f64 y] w fun e w' => e = .returned (.float .f64 res) ∧ w = w' := by
  have ht1 : (FloatKind.f64.format.order y 0 == some .eq) = false := by rw [eq_words hy1 (by decide)]; simp; omega
  have ht2 : (FloatKind.f64.format.order x 0 == some .lt) = false := by rw [lt_words hx (by decide)]; simp
  have hi : ∀ w, Calls Try.prog 20 #[.float .f64 x, .int .i64 0] w fun e w' => e = .returned (.bool false) ∧ w = w' := by
    intro w
    have := isinf_zero x (by omega) w
    rwa [(sgn_low hx).1, decide_eq_false (by omega)] at this
  have hn1 : ∀ w, Calls Try.prog 19 #[.float .f64 x] w fun e w' => e = .returned (.bool false) ∧ w = w' := by
    intro w
    have := isnan_any x (by omega) w
    rwa [(sgn_low hx).2.2.1] at this
  have hn2 : ∀ w, Calls Try.prog 19 #[.float .f64 y] w fun e w' => e = .returned (.bool false) ∧ w = w' := by
    intro w
    have := isnan_any y (by omega) w
    rwa [(sgn_low hy1).2.2.1] at this
  have ha : ∀ w, Calls Try.prog 23 #[.float .f64 y] w fun e w' => e = .returned (.float .f64 y) ∧ w = w' := by
    intro w
    have := abs_any y (by omega) w
    rwa [(sgn_low hy1).1] at this
  obtain ⟨fy, hfy⟩ : ∃ fy : Nat, 4602678819172646912 + y % 4503599627370496 = fy := ⟨_, rfl⟩
  obtain ⟨qy, hqy⟩ : ∃ qy : Int, ((y / 4503599627370496 : Nat) : Int) - 1022 = qy := ⟨_, rfl⟩
  have hfr := Frexp_any y (by omega) hy1
  rw [hfy, hqy] at hfr
  have HX := Lib.hid hx
  have HY0 := Lib.hid hy0
  have HY1 := Lib.hid hy1
  have HRES := Lib.hid hres
  have HFY := Lib.hid hfy
  have HQY := Lib.hid hqy
  clear hx hy0 hy1 hres hfy hqy
  go_enter Try.func29, Try.ntmps29
  go_wp2_with (first
    | (go_at_call 23; refine (ha _).mono ?_; rintro e w' ⟨rfl, rfl⟩)
    | (go_at_call 20; refine (hi _).mono ?_; rintro e w' ⟨rfl, rfl⟩)
    | (go_at_call 19; refine (hn1 _).mono ?_; rintro e w' ⟨rfl, rfl⟩)
    | (go_at_call 19; refine (hn2 _).mono ?_; rintro e w' ⟨rfl, rfl⟩)
    | (go_at_call 34; refine (hfr _).mono ?_; rintro e w' ⟨rfl, rfl⟩))
  go_loop [7] (fun v => ∃ r : Nat, v = .float .f64 r ∧ Hid (r < 9218868437227405312) ∧ Hid (MM r % MM y = MM x % MM y)) (fun v => wdOf v)
  case atStart => exact ⟨x, rfl, HX, (show Hid _ from rfl)⟩
  case round =>
    obtain ⟨r, rfl, HR, HM⟩ := hrel
    by_cases hge : y ≤ r
    · have HGE := Lib.hid hge
      obtain ⟨s, s1, s2, s3⟩ := mod_step hge HY0.out HR.out
      have hki := kk_int hge
      obtain ⟨k1, k2⟩ := kk_ok hge
      have hlw := lt_words (a := 4602678819172646912 + r % 4503599627370496) (b := 4602678819172646912 + y % 4503599627370496) (by omega) (by omega)
      rw [HFY.out] at hlw
      have hfr2 := Frexp_any r (by have := HY0.out; omega) HR.out
      have hld := Ldexp_any y (kk r y) HY0.out (by have := HR.out; omega)
      obtain ⟨t, ht⟩ : ∃ t, y + kk r y * 4503599627370496 = t := ⟨_, rfl⟩
      rw [ht] at s1 hld
      have hsub : ∀ t' w, (binOp .sub t' (.float .f64 r) (.float .f64 t)).run Try.prog w = .ok (.float .f64 s) w := fun t' w => run_float_arith w .sub t' .f64 r t s s1
      obtain ⟨fr, hfrd⟩ : ∃ fr : Nat, 4602678819172646912 + r % 4503599627370496 = fr := ⟨_, rfl⟩
      obtain ⟨qr, hqr⟩ : ∃ qr : Int, ((r / 4503599627370496 : Nat) : Int) - 1022 = qr := ⟨_, rfl⟩
      rw [hfrd, hqr] at hfr2
      have hq1 : -1022 ≤ qr := by omega
      have hq2 : qr ≤ 1024 := by have := HR.out; omega
      have hq3 : -1022 ≤ qy := by have := HQY.out; omega
      have hq4 : qy ≤ 1024 := by have := HQY.out; have := HY1.out; omega
      rw [hfrd] at hlw
      have HS : Hid (s < 9218868437227405312) := by have := HR.out; show s < _; omega
      have HS2 := Lib.hid s2
      have HS3 : Hid (MM s % MM y = MM x % MM y) := by show _ = _; rw [s3]; exact HM.out
      clear HM
      by_cases hl : r % 4503599627370496 < y % 4503599627370496
      · have hlt : (FloatKind.f64.format.order fr fy == some .lt) = true := by have := HFY.out; rw [hlw]; simp; omega
        have hki' : ((kk r y : Nat) : Int) = qr - 1 - qy := by rw [hki, if_pos hl]; have := HQY.out; omega
        rw [hki'] at hld
        clear hge hki k1 k2 hlw s1 ht hfrd hqr s2 s3 hl hki'
        go_wp2_with (first
          | (go_at_call 34; refine (hfr2 _).mono ?_; rintro e w' ⟨rfl, rfl⟩)
          | (go_at_call 35; refine (hld _).mono ?_; rintro e w' ⟨rfl, rfl⟩)
          | (simp only [hsub]))
        · exact ⟨⟨s, rfl, HS, HS3⟩, HS2.out⟩
        · rename_i hno _
          have h1 := gt_words HR.out HY1.out
          have h2 := eq_words HR.out HY1.out
          rw [hno.1] at h1
          rw [hno.2] at h2
          have := HGE.out
          simp at h1 h2
          omega
      · have hlt : (FloatKind.f64.format.order fr fy == some .lt) = false := by have := HFY.out; rw [hlw]; simp; omega
        have hki' : ((kk r y : Nat) : Int) = qr - qy := by rw [hki, if_neg hl]; have := HQY.out; omega
        rw [hki'] at hld
        clear hge hki k1 k2 hlw s1 ht hfrd hqr s2 s3 hl hki'
        go_wp2_with (first
          | (go_at_call 34; refine (hfr2 _).mono ?_; rintro e w' ⟨rfl, rfl⟩)
          | (go_at_call 35; refine (hld _).mono ?_; rintro e w' ⟨rfl, rfl⟩)
          | (simp only [hsub]))
        · exact ⟨⟨s, rfl, HS, HS3⟩, HS2.out⟩
        · rename_i hno _
          have h1 := gt_words HR.out HY1.out
          have h2 := eq_words HR.out HY1.out
          rw [hno.1] at h1
          rw [hno.2] at h2
          have := HGE.out
          simp at h1 h2
          omega
    · have h1 := gt_words HR.out HY1.out
      have h2 := eq_words HR.out HY1.out
      rw [decide_eq_false (by omega)] at h1 h2
      have HV := Lib.hid (HRES.out r (by omega) HM.out)
      clear hge
      go_wp2_with (fail)
      go_ret
      exact ⟨ret_float HV.out, rfl⟩

theorem mod_any (x n W : Nat) (hx : x < 9218868437227405312) (hX : MM x = W * KK) (hn1 : 1 ≤ n) (hn : n ≤ 1048576) (w : World) :
    Calls Try.prog 21 #[.float .f64 x, .float .f64 (flo n)] w fun e w' => e = .returned (.float .f64 (flo (W % n))) ∧ w = w' := by
  obtain ⟨f1, f2⟩ := flo_low hn1 hn
  have hm := mod_walk x (flo n) (flo (W % n)) hx f1 (by omega) (fun r h g => rest_eq hn1 hn hX (flo_ok (by omega)).2 g h)
  clear hx hX hn1 hn f1 f2
  generalize flo (W % n) = r at *
  generalize flo n = y at *
  go_enter Try.func21, Try.ntmps21
  go_wp2_with (first
    | (go_at_call 29; refine (hm _).mono ?_; rintro e w' ⟨rfl, rfl⟩))
  go_ret
  exact ⟨rfl, rfl⟩
end Go.Proofs.Ytdhooabamoehiaa
