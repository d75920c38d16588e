/- Four statements on moments, walked: each answers true in whatever world. -/
import Derived.Test.YtbpcggoplacplaaRows
import Derived.Test.YtbpcggoplacplaaFl
import Derived.Test.YtbpcggoplacplaaPr
import Derived.Test.YtbpcggoplacplaaLs
import Derived.Test.YtbpcggoplacplaaSt
import Derived.Test.YtbpcggoplacplaaRs
import Derived.WalkKit
import Derived.WalkLawsBesides
import Derived.WalkSpells
import Derived.Lib.Hide
import Derived.Below
namespace Go.Proofs.Ytbpcggoplacplaa
open Go.RowKit

theorem ofF_lt (n : Int) : ofF n < 18446744073709551616 := by
  unfold ofF
  split
  · have := (flo_ok (n := n.toNat) (by omega)).1; omega
  · decide

theorem alive_any (w : World) : Calls Try.prog 8 #[] w fun e w' => e = .returned (.bool true) ∧ w = w' := by
  have h3 : ofF 3 = 4613937818241073152 := by decide
  have h3b : ofB 3 = true := by decide
  have hS : isS 4613937818241073152 = true := by rw [← h3]; exact (isS_flo (n := 3) (by decide)).1
  have hV : stV 4613937818241073152 = 3 := by unfold stV; rw [hS, ← h3]; exact congrArg Int.ofNat (isS_flo (n := 3) (by decide)).2
  have he : (FloatKind.f64.format.order 4613937818241073152 4613937818241073152 == some .eq) = true := by decide
  have hl1 : lessB 18442240474082181120 4613937818241073152 = true := by decide
  have hl2 : lessB 4613937818241073152 9218868437227405312 = true := by decide
  have hn : nanB 9221120237041090561 = true := by decide
  go_enter Try.func8, Try.ntmps8
  go_wp2_with (first
    | (go_at_call 9; refine (of_any _ _).mono ?_; rintro e w' ⟨rfl, rfl⟩)
    | (go_at_call 10; refine (step_any _ (by decide) _).mono ?_; rintro e w' ⟨rfl, rfl⟩)
    | (go_at_call 12; refine (first_any _).mono ?_; rintro e w' ⟨rfl, rfl⟩)
    | (go_at_call 13; refine (later_any _).mono ?_; rintro e w' ⟨rfl, rfl⟩)
    | (go_at_call 16; refine (never_any _).mono ?_; rintro e w' ⟨rfl, rfl⟩)
    | (go_at_call 15; refine (none_any _ (by decide) _).mono ?_; rintro e w' ⟨rfl, rfl⟩)
    | (go_at_call 17; refine (less_any _ _ (by decide) (by decide) _).mono ?_; rintro e w' ⟨rfl, rfl⟩))
  go_ret
  exact ⟨rfl, rfl⟩

theorem orders_any (a b : Nat) (ha : a < 18446744073709551616) (hb : b < 18446744073709551616) (w : World) :
    Calls Try.prog 4 #[.float .f64 a, .float .f64 b] w fun e w' => e = .returned (.bool true) ∧ w = w' := by
  have hS : (rk a == rk b) = sameB a b := by unfold sameB; rw [Bool.eq_iff_iff]; simp
  go_enter Try.func4, Try.ntmps4
  go_wp2_with (first
    | (go_at_call 8; refine (alive_any _).mono ?_; rintro e w' ⟨rfl, rfl⟩)
    | (go_at_call 14; refine (rank_any _ (by assumption) _).mono ?_; rintro e w' ⟨rfl, rfl⟩)
    | (go_at_call 18; refine (rless_any _ _ (by assumption) (by assumption) _).mono ?_; rintro e w' ⟨rfl, rfl⟩)
    | (go_at_call 19; refine (same_any _ _ (by assumption) (by assumption) _).mono ?_; rintro e w' ⟨rfl, rfl⟩)
    | (go_at_call 17; refine (less_any _ _ (by assumption) (by assumption) _).mono ?_; rintro e w' ⟨rfl, rfl⟩))
  go_ret
  exact ⟨by simp, rfl⟩

theorem steps_any (n : Int) (b : Nat) (hb : b < 18446744073709551616) (w : World) :
    Calls Try.prog 3 #[.int .i64 n, .float .f64 b] w fun e w' => e = .returned (.bool true) ∧ w = w' := by
  have hf := ofF_lt n
  have hr1 : rk 18442240474082181120 = 4503599627370495 := by decide
  have hr2 : rk 9218868437227405312 = 18442240474082181120 := by decide
  have hn : nanB 9221120237041090561 = true := by decide
  by_cases h : 0 ≤ n ∧ n ≤ 9007199254740992
  · have hB : ofB n = true := by unfold ofB; simpa using h
    have hF : ofF n = flo n.toNat := by unfold ofF; rw [if_pos h]
    have hS : isS (ofF n) = true := by rw [hF]; exact (isS_flo (by omega)).1
    have hV : stV (ofF n) = n := by unfold stV; rw [hS, hF, (isS_flo (by omega)).2]; show ((n.toNat : Nat) : Int) = n; omega
    obtain ⟨h0, h1⟩ := h
    clear hF
    go_enter Try.func3, Try.ntmps3
    go_wp2_with (first
      | (go_at_call 8; refine (alive_any _).mono ?_; rintro e w' ⟨rfl, rfl⟩)
      | (go_at_call 9; refine (of_any _ _).mono ?_; rintro e w' ⟨rfl, rfl⟩)
      | (go_at_call 10; refine (step_any _ (by assumption) _).mono ?_; rintro e w' ⟨rfl, rfl⟩)
      | (go_at_call 11; refine (rstep_any _ (by assumption) _).mono ?_; rintro e w' ⟨rfl, rfl⟩)
      | (go_at_call 12; refine (first_any _).mono ?_; rintro e w' ⟨rfl, rfl⟩)
      | (go_at_call 13; refine (later_any _).mono ?_; rintro e w' ⟨rfl, rfl⟩)
      | (go_at_call 16; refine (never_any _).mono ?_; rintro e w' ⟨rfl, rfl⟩)
      | (go_at_call 14; refine (rank_any _ (by decide) _).mono ?_; rintro e w' ⟨rfl, rfl⟩)
      | (go_at_call 15; refine (none_any _ (by first | assumption | decide) _).mono ?_; rintro e w' ⟨rfl, rfl⟩))
    go_ret
    exact ⟨by simp, rfl⟩
  · have hB : ofB n = false := by unfold ofB; simpa using h
    have hF : nanB (ofF n) = true := by unfold ofF; rw [if_neg h]; decide
    have hc : n < 0 ∨ (¬ n < 0 ∧ 9007199254740992 < n) := by omega
    clear h
    rcases hc with hc | ⟨hc, hc'⟩
    all_goals
      go_enter Try.func3, Try.ntmps3
      go_wp2_with (first
        | (go_at_call 8; refine (alive_any _).mono ?_; rintro e w' ⟨rfl, rfl⟩)
        | (go_at_call 9; refine (of_any _ _).mono ?_; rintro e w' ⟨rfl, rfl⟩)
        | (go_at_call 10; refine (step_any _ (by assumption) _).mono ?_; rintro e w' ⟨rfl, rfl⟩)
        | (go_at_call 11; refine (rstep_any _ (by assumption) _).mono ?_; rintro e w' ⟨rfl, rfl⟩)
        | (go_at_call 12; refine (first_any _).mono ?_; rintro e w' ⟨rfl, rfl⟩)
        | (go_at_call 13; refine (later_any _).mono ?_; rintro e w' ⟨rfl, rfl⟩)
        | (go_at_call 16; refine (never_any _).mono ?_; rintro e w' ⟨rfl, rfl⟩)
        | (go_at_call 14; refine (rank_any _ (by decide) _).mono ?_; rintro e w' ⟨rfl, rfl⟩)
        | (go_at_call 15; refine (none_any _ (by first | assumption | decide) _).mono ?_; rintro e w' ⟨rfl, rfl⟩))
      go_ret
      exact ⟨by simp, rfl⟩

theorem total_any (a b c : Nat) (ha : a < 18446744073709551616) (hb : b < 18446744073709551616) (hc : c < 18446744073709551616) (w : World) :
    Calls Try.prog 6 #[.float .f64 a, .float .f64 b, .float .f64 c] w fun e w' => e = .returned (.bool true) ∧ w = w' := by
  have hsa : sameB a a = true := by unfold sameB; simp
  have h3 : (lessB a b = true ∧ lessB b a = false ∧ sameB a b = false ∧ (lessB b c = false ∨ (lessB b c = true ∧ lessB a c = true)))
      ∨ (lessB a b = false ∧ lessB b a = true ∧ sameB a b = false) ∨ (lessB a b = false ∧ lessB b a = false ∧ sameB a b = true) := by
    unfold lessB sameB
    simp only [decide_eq_true_eq, decide_eq_false_iff_not]
    omega
  rcases h3 with ⟨h1, h2, h3, h4 | ⟨h4, h5⟩⟩ | ⟨h1, h2, h3⟩ | ⟨h1, h2, h3⟩
  all_goals
    go_enter Try.func6, Try.ntmps6
    go_wp2_with (first
      | (go_at_call 8; refine (alive_any _).mono ?_; rintro e w' ⟨rfl, rfl⟩)
      | (go_at_call 19; refine (same_any _ _ (by assumption) (by assumption) _).mono ?_; rintro e w' ⟨rfl, rfl⟩)
      | (go_at_call 17; refine (less_any _ _ (by assumption) (by assumption) _).mono ?_; rintro e w' ⟨rfl, rfl⟩))
    go_ret
    exact ⟨rfl, rfl⟩

theorem rk_flo {n : Nat} (h : n ≤ 9007199254740992) : rk (flo n) = 9223372036854775808 + flo n := by
  have := (flo_ok h).1
  have e : rng (flo n) = flo n := by unfold rng; rw [if_neg]; omega
  unfold rk nanB sgn
  rw [e, if_neg (by simp; omega), if_neg (by simp; omega)]

theorem places_any (i k : Int) (b : Nat) (hb : b < 18446744073709551616) (w : World) :
    Calls Try.prog 7 #[.int .i64 i, .int .i64 k, .float .f64 b] w fun e w' => e = .returned (.bool true) ∧ w = w' := by
  have hfi := ofF_lt i
  have hfk := ofF_lt k
  have hN : lessB 9221120237041090561 b = false := by
    have := rk_lt b hb
    unfold lessB; rw [show rk 9221120237041090561 = 18446744073709551615 by decide]; simp; omega
  have hG : lessB b 18442240474082181120 = false := by
    unfold lessB; rw [show rk 18442240474082181120 = 4503599627370495 by decide]; simp
    have hr := rng_lt hb
    unfold rk nanB
    by_cases hn : 9218868437227405312 < rng b
    · simp [hn]
    · cases hs : sgn b <;> simp [hn] <;> omega
  cases hi : ofB i
  · cases hk : ofB k
    all_goals
      go_enter Try.func7, Try.ntmps7
      go_wp2_with (first
        | (go_at_call 8; refine (alive_any _).mono ?_; rintro e w' ⟨rfl, rfl⟩)
        | (go_at_call 9; refine (of_any _ _).mono ?_; rintro e w' ⟨rfl, rfl⟩)
        | (go_at_call 12; refine (first_any _).mono ?_; rintro e w' ⟨rfl, rfl⟩)
        | (go_at_call 16; refine (never_any _).mono ?_; rintro e w' ⟨rfl, rfl⟩)
        | (go_at_call 17; refine (less_any _ _ (by first | assumption | decide) (by first | assumption | decide) _).mono ?_; rintro e w' ⟨rfl, rfl⟩))
      go_ret
      exact ⟨rfl, rfl⟩
  · cases hk : ofB k
    · go_enter Try.func7, Try.ntmps7
      go_wp2_with (first
        | (go_at_call 8; refine (alive_any _).mono ?_; rintro e w' ⟨rfl, rfl⟩)
        | (go_at_call 9; refine (of_any _ _).mono ?_; rintro e w' ⟨rfl, rfl⟩)
        | (go_at_call 12; refine (first_any _).mono ?_; rintro e w' ⟨rfl, rfl⟩)
        | (go_at_call 16; refine (never_any _).mono ?_; rintro e w' ⟨rfl, rfl⟩)
        | (go_at_call 17; refine (less_any _ _ (by first | assumption | decide) (by first | assumption | decide) _).mono ?_; rintro e w' ⟨rfl, rfl⟩))
      go_ret
      exact ⟨rfl, rfl⟩
    · have bi : 0 ≤ i ∧ i ≤ 9007199254740992 := of_decide_eq_true hi
      have bk : 0 ≤ k ∧ k ≤ 9007199254740992 := of_decide_eq_true hk
      have ei : ofF i = flo i.toNat := by unfold ofF; rw [if_pos bi]
      have ek : ofF k = flo k.toNat := by unfold ofF; rw [if_pos bk]
      have hl : lessB (ofF i) (ofF k) = decide (i < k) := by
        have := flo_inj (m := i.toNat) (n := k.toNat) (by omega) (by omega)
        unfold lessB
        rw [ei, ek, rk_flo (by omega), rk_flo (by omega), Bool.eq_iff_iff]; simp; omega
      have h1 : lessB 18442240474082181120 (ofF i) = true := by
        unfold lessB; rw [ei, rk_flo (by omega), show rk 18442240474082181120 = 4503599627370495 by decide]; simp; omega
      have h2 : lessB (ofF i) 9218868437227405312 = true := by
        have := (flo_ok (n := i.toNat) (by omega)).1
        unfold lessB; rw [ei, rk_flo (by omega), show rk 9218868437227405312 = 18442240474082181120 by decide]; simp; omega
      have hS : isS (ofF i) = true := by rw [ei]; exact (isS_flo (by omega)).1
      have hV : stV (ofF i) = i := by unfold stV; rw [hS, ei, (isS_flo (by omega)).2]; show ((i.toNat : Nat) : Int) = i; omega
      clear ei ek bi bk
      go_enter Try.func7, Try.ntmps7
      go_wp2_with (first
        | (go_at_call 8; refine (alive_any _).mono ?_; rintro e w' ⟨rfl, rfl⟩)
        | (go_at_call 9; refine (of_any _ _).mono ?_; rintro e w' ⟨rfl, rfl⟩)
        | (go_at_call 10; refine (step_any _ (by assumption) _).mono ?_; rintro e w' ⟨rfl, rfl⟩)
        | (go_at_call 12; refine (first_any _).mono ?_; rintro e w' ⟨rfl, rfl⟩)
        | (go_at_call 13; refine (later_any _).mono ?_; rintro e w' ⟨rfl, rfl⟩)
        | (go_at_call 16; refine (never_any _).mono ?_; rintro e w' ⟨rfl, rfl⟩)
        | (go_at_call 17; refine (less_any _ _ (by first | assumption | decide) (by first | assumption | decide) _).mono ?_; rintro e w' ⟨rfl, rfl⟩))
      go_ret
      exact ⟨by simp, rfl⟩

/-! ### The statements' walks, as their frames ask them -/
theorem wf_f64_out {b : Nat} (h : (Lit.float .f64 b).wf = true) : b < 18446744073709551616 := by
  simp [Lit.wf] at h; exact h
theorem below_of {P : Program} {f : FuncId} {args : Array Value} {W : World} (h : Calls P f args W fun e w' => e = .returned (.bool true) ∧ W = w') :
    Calls P f args W fun e W' => e = .returned (.bool true) ∧ Below W.heap.size W W' := h.mono fun _ _ ⟨he, hw⟩ => ⟨he, hw ▸ Below.refl _ _⟩
theorem momentSteps_law (n : Int) (b : Nat) (W : World) (_ : (Lit.int .i64 n).wf = true) (wb : (Lit.float .f64 b).wf = true) :
    Calls Try.prog 3 #[.int .i64 n, .float .f64 b] W fun e W' => e = .returned (.bool true) ∧ Below W.heap.size W W' :=
  below_of (steps_any n b (wf_f64_out wb) W)
theorem momentOrders_law (a b : Nat) (W : World) (wa : (Lit.float .f64 a).wf = true) (wb : (Lit.float .f64 b).wf = true) :
    Calls Try.prog 4 #[.float .f64 a, .float .f64 b] W fun e W' => e = .returned (.bool true) ∧ Below W.heap.size W W' :=
  below_of (orders_any a b (wf_f64_out wa) (wf_f64_out wb) W)
theorem momentTotal_law (a b c : Nat) (W : World) (wa : (Lit.float .f64 a).wf = true) (wb : (Lit.float .f64 b).wf = true) (wc : (Lit.float .f64 c).wf = true) :
    Calls Try.prog 6 #[.float .f64 a, .float .f64 b, .float .f64 c] W fun e W' => e = .returned (.bool true) ∧ Below W.heap.size W W' :=
  below_of (total_any a b c (wf_f64_out wa) (wf_f64_out wb) (wf_f64_out wc) W)
theorem momentPlaces_law (i k : Int) (b : Nat) (W : World) (_ : (Lit.int .i64 i).wf = true) (_ : (Lit.int .i64 k).wf = true) (wb : (Lit.float .f64 b).wf = true) :
    Calls Try.prog 7 #[.int .i64 i, .int .i64 k, .float .f64 b] W fun e W' => e = .returned (.bool true) ∧ Below W.heap.size W W' :=
  below_of (places_any i k b (wf_f64_out wb) W)
end Go.Proofs.Ytbpcggoplacplaa
