/- The contracts of the document's Whole, None and Of, and of both Oldest and Right. -/
import Derived.Test.YtdhooabamoehiaaRows
import Derived.Test.YtdhooabamoehiaaOf
import Derived.WalkKit
import Derived.WalkLawsBesides
import Derived.Deep.QuietTactic
import Derived.BigQuiet
import Derived.WalkSmall
import Derived.WalkSpells
import Derived.Lib.Hide
import Derived.Laws.Externs
import Derived.Laws.BitsAllLaws
import Derived.Deep.Cut
namespace Go.Proofs.Ytdhooabamoehiaa
open Go.RowKit

theorem none_any (b : Nat) (hb : b < 18446744073709551616) (w : World) :
    Calls Try.prog 18 #[.float .f64 b] w fun e w' => e = .returned (.bool (nanB b)) ∧ w = w' := by
  have hd := call_bits b
  have ha := andnot_top b hb
  have H : Hid (decide ((9218868437227405312 : Int) < (rng b : Int)) = nanB b) := by
    show _ = _; unfold nanB; rw [Bool.eq_iff_iff]; simp; omega
  go_enter Try.func18, Try.ntmps18
  go_wp2
  go_ret
  exact ⟨ret_bool H.out, rfl⟩

theorem roldest_any (b : Nat) (hb : b < 18446744073709551616) (w : World) :
    Calls Try.prog 12 #[.float .f64 b] w fun e w' => e = .returned (.bool (olB b)) ∧ w = w' := by
  have hd := call_bits b
  by_cases h : b = 18442240474082181120
  · have H : Hid (olB b = true) := by show _ = _; unfold olB; rw [decide_eq_true h]; rfl
    have ht : ((b : Int) == 18442240474082181120) = true := by simp; omega
    clear h
    go_enter Try.func12, Try.ntmps12
    go_wp2
    go_ret
    exact ⟨ret_bool H.out.symm, rfl⟩
  · have ht : ((b : Int) == 18442240474082181120) = false := by simp; omega
    have H : Hid (decide ((b : Int) < 4607182418800017408) = olB b) := by show _ = _; unfold olB; rw [decide_eq_false h, Bool.false_or, Bool.eq_iff_iff]; simp; omega
    clear h
    go_enter Try.func12, Try.ntmps12
    go_wp2
    go_ret
    exact ⟨ret_bool H.out, rfl⟩

theorem oldest_any (b : Nat) (hb : b < 18446744073709551616) (w : World) :
    Calls Try.prog 11 #[.float .f64 b] w fun e w' => e = .returned (.bool (olB b)) ∧ w = w' := by
  have hS := signbit_any b hb
  cases hs : sgn b
  · rw [hs] at hS
    have H : Hid ((FloatKind.f64.format.order b 4607182418800017408 == some .lt) = olB b) := by
      show _ = _
      refine (ord_lt hb (by decide)).trans ?_
      rw [show nanB 4607182418800017408 = false by decide, show ky 4607182418800017408 = 4607182418800017408 by decide]
      unfold sgn at hs
      simp at hs
      unfold nanB ky rng olB
      rw [if_neg (by omega), if_neg (by omega), Bool.eq_iff_iff]
      simp
      omega
    clear hs
    go_enter Try.func11, Try.ntmps11
    go_wp2_with (first
      | (go_at_call 24; refine (hS _).mono ?_; rintro e w' ⟨rfl, rfl⟩))
    go_ret
    exact ⟨ret_bool H.out, rfl⟩
  · rw [hs] at hS
    have hI := isinf_neg b hb
    have H : Hid (decide (b = 18442240474082181120) = olB b) := by
      show _ = _
      unfold sgn at hs
      simp at hs
      unfold olB
      rw [decide_eq_false (p := b < 4607182418800017408) (by omega), Bool.or_false]
    clear hs
    go_enter Try.func11, Try.ntmps11
    go_wp2_with (first
      | (go_at_call 24; refine (hS _).mono ?_; rintro e w' ⟨rfl, rfl⟩)
      | (go_at_call 20; refine (hI _).mono ?_; rintro e w' ⟨rfl, rfl⟩))
    go_ret
    exact ⟨ret_bool H.out, rfl⟩

theorem and_exp2 {b : Nat} (hb : b < 18446744073709551616) : bits .and .u64 ((b : Int) / 4503599627370496) 2047 = ((rng b / 4503599627370496 : Nat) : Int) := by
  rw [show (b : Int) / 4503599627370496 = ((b / 4503599627370496 : Nat) : Int) by omega, show (2047 : Int) = ((2047 : Nat) : Int) from rfl, u64_and_nat _ _ (by omega) (by decide), nat_mask11]
  unfold rng
  split <;> omega
theorem and_low (b : Nat) (hb : b < 18446744073709551616) : bits .and .u64 (b : Int) 4503599627370495 = ((rng b % 4503599627370496 : Nat) : Int) := by
  rw [show (4503599627370495 : Int) = ((4503599627370495 : Nat) : Int) from rfl, u64_and_nat b _ hb (by decide),
    show 4503599627370495 = 2 ^ 52 - 1 by decide, Nat.and_two_pow_sub_one_eq_mod]
  unfold rng
  split <;> omega

/-- The whole part of a size, by n. -/
def whV (n : Int) (b : Nat) : Int := ((stp (rng b) % n.toNat : Nat) : Int)
def wx (f m k : Nat) : Int := (((4503599627370496 + f) * 2 ^ (k - 52) % m : Nat) : Int)
theorem whole_any (b : Nat) (hb : b < 18446744073709551616) (hfin : rng b < 9218868437227405312) (n : Int) (hn1 : 1 ≤ n) (hn2 : n ≤ 1048576) (w : World) :
    Calls Try.prog 26 #[.float .f64 b, .int .i64 n] w fun e w' => e = .returned (.int .i64 (whV n b)) ∧ w = w' := by
  have hd := call_bits b
  have he := and_exp2 hb
  have hl := and_low b hb
  obtain ⟨q, hq⟩ : ∃ q : Nat, rng b / 4503599627370496 = q := ⟨_, rfl⟩
  obtain ⟨f, hf⟩ : ∃ f : Nat, rng b % 4503599627370496 = f := ⟨_, rfl⟩
  rw [hq] at he
  rw [hf] at hl
  have hq0 : (q : Int) ≤ 2046 := by omega
  have hf1 : (f : Int) < 4503599627370496 := by omega
  by_cases h1 : q < 1023
  · have HV : Hid (whV n b = 0) := by show _ = _; unfold whV; rw [stp_small (by omega), Nat.zero_mod]; rfl
    have h1' : (q : Int) - 1023 < 0 := by omega
    clear hq hf hfin h1
    go_enter Try.func26, Try.ntmps26
    go_wp2
    go_ret
    exact ⟨ret_int HV.out.symm, rfl⟩
  have h1' : ¬ (q : Int) - 1023 < 0 := by omega
  have hD : DD (rng b) = 4503599627370496 + f := by unfold DD; rw [if_neg (by omega), hf]
  obtain ⟨N, hN⟩ : ∃ N : Int, (f : Int) + 4503599627370496 = N := ⟨_, rfl⟩
  have hN0 : 0 ≤ N := by omega
  have hN1 : N < 9007199254740992 := by omega
  by_cases h2 : q ≤ 1075
  · obtain ⟨c, hc⟩ : ∃ c : Int, 52 - ((q : Int) - 1023) = c := ⟨_, rfl⟩
    have hc0 : 0 ≤ c := by omega
    have hc52 : c ≤ 52 := by omega
    have h2' : (q : Int) - 1023 ≤ 52 := by omega
    have HV : Hid (whV n b = N / 2 ^ c.toNat % n) := by
      show _ = _
      unfold whV
      rw [stp_mid (by omega) (by omega), hq, hD, show 1075 - q = c.toNat by omega, Int.natCast_emod, Int.natCast_ediv, Int.natCast_pow, show ((n.toNat : Nat) : Int) = n by omega,
        show ((4503599627370496 + f : Nat) : Int) = N by omega]
      rfl
    have hp : 0 ≤ N / 2 ^ c.toNat := Int.ediv_nonneg hN0 (Int.le_of_lt (Int.pow_pos (by decide)))
    have hp2 : N / 2 ^ c.toNat < 9007199254740992 := by have := Int.ediv_le_self (a := N) (2 ^ c.toNat) hN0; omega
    have hr1 : 0 ≤ N / 2 ^ c.toNat % n := Int.emod_nonneg _ (by omega)
    have hr2 : N / 2 ^ c.toNat % n < n := Int.emod_lt_of_pos _ (by omega)
    clear hq hf hfin h1 h2 hD
    go_enter Try.func26, Try.ntmps26
    go_wp2
    go_ret
    exact ⟨ret_int HV.out.symm, rfl⟩
  · have h2' : ¬ (q : Int) - 1023 ≤ 52 := by omega
    obtain ⟨m, hm⟩ : ∃ m : Nat, n = (m : Int) := ⟨n.toNat, by omega⟩
    have HV : Hid (∀ k : Nat, (k : Int) + 1023 = q → whV n b = wx f m k) := by
      show ∀ _, _
      intro k hk
      unfold whV wx
      rw [stp_big (by omega), hq, hD, show q - 1075 = k - 52 by omega, show n.toNat = m by omega]
    have hz0 : 0 ≤ N % n := Int.emod_nonneg _ (by omega)
    have hz1 : N % n < n := Int.emod_lt_of_pos _ (by omega)
    have HZ : Hid (N % n = wx f m 52) := by
      show _ = _
      unfold wx
      rw [Nat.sub_self, Nat.pow_zero, Nat.mul_one, Int.natCast_emod, show ((4503599627370496 + f : Nat) : Int) = N by omega, hm]
    have HM := Lib.hid hm
    have hq1 : (0 : Int) ≤ q := by omega
    clear hq hf hfin h1 h2 hD hm
    generalize (q : Int) = Q at *
    obtain ⟨E, hE⟩ : ∃ E : Int, Q - 1023 = E := ⟨_, rfl⟩
    have hE0 : 52 < E := by omega
    have hE1 : E ≤ 1023 := by omega
    have h3 : ¬ E < 0 := by omega
    have h4 : ¬ E ≤ 52 := by omega
    have HE : Hid (E = Q - 1023) := hE.symm
    clear h1' h2'
    go_enter Try.func26, Try.ntmps26
    go_wp2
    go_loop [8, 9] (fun x i => ∃ (z j : Int), 0 ≤ z ∧ z < n ∧ 52 ≤ j ∧ j ≤ E ∧ i = .int .i64 j ∧ x = .int .u64 z ∧ Hid (z = wx f m j.toNat)) (fun _ i => (E - intOf i).toNat)
    case atStart => exact ⟨N % n, 52, hz0, hz1, by omega, by omega, rfl, rfl, HZ⟩
    case round =>
      obtain ⟨z, j, z0, z1, k0, k1, rfl, rfl, HK⟩ := hrel
      have y0 : 0 ≤ 2 * z % n := Int.emod_nonneg _ (by omega)
      have y1 : 2 * z % n < n := Int.emod_lt_of_pos _ (by omega)
      clear hE he hl hd hN hz0 hz1 hq0 hq1
      generalize (b : Int) / 4503599627370496 = bb
      generalize N % n = bc at *
      clear hb hf1 hN0 hN1
      go_wp2
      · go_round
        case rel =>
          refine ⟨2 * z % n, j + 1, y0, y1, by omega, by omega, rfl, rfl, ?_⟩
          show _ = _
          unfold wx
          rw [HK.out, HM.out]
          unfold wx
          rw [show (j + 1).toNat - 52 = j.toNat - 52 + 1 by omega, Nat.pow_succ, ← Nat.mul_assoc]
          generalize (4503599627370496 + f) * 2 ^ (j.toNat - 52) = a
          have e : (2 : Int) * ((a % m : Nat) : Int) % (m : Int) = ((2 * (a % m) % m : Nat) : Int) := by rw [Int.natCast_emod (2 * (a % m)), Int.natCast_mul]; rfl
          rw [e, Nat.mul_mod_mod, Nat.mul_comm]
        case measure => simp [intOf]; omega
      · go_ret
        exact ⟨ret_int (by rw [HV.out j.toNat (by have := HE.out; omega)]; exact HK.out), rfl⟩

theorem rof_any (n : Int) (b : Nat) (hb : b < 18446744073709551616) (w : World) :
    Calls Try.prog 10 #[.int .i64 n, .float .f64 b] w fun e w' => e = .returned (.tuple #[.int .i64 (chV n b), .bool (chB n b)]) ∧ w = w' := by
  have hd := call_bits b
  by_cases h1 : n < 1
  · have HB : Hid (chB n b = false) := by show _ = _; unfold chB; rw [decide_eq_false (by omega)]; rfl
    have HV := Lib.hid (chV_no HB.out)
    go_enter Try.func10, Try.ntmps10
    go_wp2
    go_ret2
    exact ⟨ret_ib HV.out.symm HB.out.symm, rfl⟩
  by_cases h2 : 1048576 < n
  · have HB : Hid (chB n b = false) := by show _ = _; unfold chB; rw [decide_eq_false (by omega)]; rfl
    have HV := Lib.hid (chV_no HB.out)
    go_enter Try.func10, Try.ntmps10
    go_wp2
    go_ret2
    exact ⟨ret_ib HV.out.symm HB.out.symm, rfl⟩
  have hN := none_any b hb
  cases hn : nanB b
  · rw [hn] at hN
    have HB : Hid (chB n b = true) := by show _ = _; unfold chB; rw [decide_eq_true (by omega), hn]; rfl
    rcases kinds hb hn with h | h | ⟨h3, h4, h5⟩
    · have HV : Hid (chV n b = 0) := by show _ = _; unfold chV; rw [HB.out, if_pos rfl, if_pos h]
      have ht1 : ((b : Int) == 9218868437227405312) = false := by simp; omega
      have ht2 : ((b : Int) == 18442240474082181120) = true := by simp; omega
      have H0 := Lib.hid hn
      have H1 := Lib.hid h
      clear hn h hb
      go_enter Try.func10, Try.ntmps10
      go_wp2_with (first
        | (go_at_call 18; refine (hN _).mono ?_; rintro e w' ⟨rfl, rfl⟩))
      go_ret2
      exact ⟨ret_ib HV.out.symm HB.out.symm, rfl⟩
    · have HV : Hid (chV n b = n - 1) := by show _ = _; unfold chV; rw [HB.out, if_pos rfl, if_neg (by omega), if_pos h]
      have ht1 : ((b : Int) == 9218868437227405312) = true := by simp; omega
      have H0 := Lib.hid hn
      have H1 := Lib.hid h
      clear hn h hb
      go_enter Try.func10, Try.ntmps10
      go_wp2_with (first
        | (go_at_call 18; refine (hN _).mono ?_; rintro e w' ⟨rfl, rfl⟩))
      go_ret2
      exact ⟨ret_ib HV.out.symm HB.out.symm, rfl⟩
    · have hW := whole_any b hb h5 n (by omega) (by omega)
      have ht1 : ((b : Int) == 9218868437227405312) = false := by simp; omega
      have ht2 : ((b : Int) == 18442240474082181120) = false := by simp; omega
      have hlt : stp (rng b) % n.toNat < n.toNat := Nat.mod_lt _ (by omega)
      have HV : Hid (chV n b = if sgn b then n - 1 - whV n b else whV n b) := by
        show _ = _
        unfold chV whV
        rw [HB.out, if_pos rfl, if_neg h3, if_neg h4]
      obtain ⟨c, hc⟩ : ∃ c : Int, whV n b = c := ⟨_, rfl⟩
      have hc0 : 0 ≤ c := by rw [← hc]; unfold whV; omega
      have hc1 : c < n := by rw [← hc]; unfold whV; omega
      rw [hc] at HV hW
      have hss : (sgn b = true ∧ ((b : Int) / 9223372036854775808 == 1) = true) ∨ (sgn b = false ∧ ((b : Int) / 9223372036854775808 == 1) = false) := by
        unfold sgn
        by_cases h : 9223372036854775808 ≤ b
        · left; simp [h]; omega
        · right; simp [h]; omega
      clear hb hn h3 h4 h5 hlt hc
      rcases hss with ⟨hs, hs2⟩ | ⟨hs, hs2⟩
      · rw [hs] at HV
        have HS := Lib.hid hs
        clear hs
        go_enter Try.func10, Try.ntmps10
        go_wp2_with (first
          | (go_at_call 18; refine (hN _).mono ?_; rintro e w' ⟨rfl, rfl⟩)
          | (go_at_call 26; refine (hW _).mono ?_; rintro e w' ⟨rfl, rfl⟩))
        go_ret2
        exact ⟨ret_ib HV.out.symm HB.out.symm, rfl⟩
      · rw [hs] at HV
        have HS := Lib.hid hs
        clear hs
        go_enter Try.func10, Try.ntmps10
        go_wp2_with (first
          | (go_at_call 18; refine (hN _).mono ?_; rintro e w' ⟨rfl, rfl⟩)
          | (go_at_call 26; refine (hW _).mono ?_; rintro e w' ⟨rfl, rfl⟩))
        go_ret2
        exact ⟨ret_ib HV.out.symm HB.out.symm, rfl⟩
  · rw [hn] at hN
    have HB : Hid (chB n b = false) := by show _ = _; unfold chB; rw [hn]; simp
    have HV := Lib.hid (chV_no HB.out)
    have HN := Lib.hid hn
    clear hn
    go_enter Try.func10, Try.ntmps10
    go_wp2_with (first
      | (go_at_call 18; refine (hN _).mono ?_; rintro e w' ⟨rfl, rfl⟩))
    go_ret2
    exact ⟨ret_ib HV.out.symm HB.out.symm, rfl⟩
end Go.Proofs.Ytdhooabamoehiaa
