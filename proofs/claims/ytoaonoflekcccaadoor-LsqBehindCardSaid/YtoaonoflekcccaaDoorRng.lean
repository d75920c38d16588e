/- The contracts of Overlap and Aligned, the program's and the document's: each is one test of numbers. -/
import Derived.Test.YtoaonoflekcccaaDoorRows
import Derived.Test.YtoaonoflekcccaaDoorBa
import Derived.WalkKit
import Derived.WalkLawsBesides
import Derived.Deep.LoopGhost
import Derived.Lib.Hide
set_option maxRecDepth 100000
namespace Go.Proofs.YtoaonoflekcccaaDoor
open Go.RowKit

/-- There may be n bytes from a on. -/
def rng (a n : Int) : Bool := decide (1 ≤ n ∧ n ≤ 8 ∧ 0 ≤ a ∧ a ≤ 1099511627776)
theorem rng_yes {a n : Int} (h : 1 ≤ n ∧ n ≤ 8 ∧ 0 ≤ a ∧ a ≤ 1099511627776) : rng a n = true := decide_eq_true h
theorem rng_no {a n : Int} (h : ¬ (1 ≤ n ∧ n ≤ 8 ∧ 0 ≤ a ∧ a ≤ 1099511627776)) : rng a n = false := decide_eq_false h
/-- Two ranges have a byte in both. -/
def ovl (a n b m : Int) : Bool := rng a n && rng b m && decide (a < b + m ∧ b < a + n)
theorem ovl_comm (a n b m : Int) : ovl a n b m = ovl b m a n := by
  unfold ovl
  rw [Bool.and_comm (rng a n)]
  congr 1
  exact decide_eq_decide.2 ⟨fun h => ⟨h.2, h.1⟩, fun h => ⟨h.2, h.1⟩⟩


theorem isRange_any (a n : Int) (w : World) :
    Calls Tryd.prog 31 #[.int .i64 a, .int .i64 n] w fun e w' => e = .returned (.bool (rng a n)) ∧ w = w' := by
  by_cases h1 : 1 ≤ n
  · by_cases h2 : n ≤ 8
    · by_cases h3 : 0 ≤ a
      · by_cases h4 : a ≤ 1099511627776
        · have HF := Lib.hid (rng_yes (a := a) (n := n) (by omega))
          go_enter Tryd.func31, Tryd.ntmps31
          go_wp2
          go_ret
          exact ⟨ret_bool HF.out.symm, rfl⟩
        · have HF := Lib.hid (rng_no (a := a) (n := n) (by omega))
          go_enter Tryd.func31, Tryd.ntmps31
          go_wp2
          go_ret
          exact ⟨ret_bool HF.out.symm, rfl⟩
      · have HF := Lib.hid (rng_no (a := a) (n := n) (by omega))
        go_enter Tryd.func31, Tryd.ntmps31
        go_wp2
        go_ret
        exact ⟨ret_bool HF.out.symm, rfl⟩
    · have HF := Lib.hid (rng_no (a := a) (n := n) (by omega))
      go_enter Tryd.func31, Tryd.ntmps31
      go_wp2
      go_ret
      exact ⟨ret_bool HF.out.symm, rfl⟩
  · have HF := Lib.hid (rng_no (a := a) (n := n) (by omega))
    go_enter Tryd.func31, Tryd.ntmps31
    go_wp2
    go_ret
    exact ⟨ret_bool HF.out.symm, rfl⟩

theorem ovl_mk {a n b m : Int} (h1 : rng a n = true) (h2 : rng b m = true) (c : Bool) (h : c = true ↔ (a < b + m ∧ b < a + n)) : ovl a n b m = c := by
  unfold ovl
  rw [h1, h2, Bool.true_and, Bool.true_and]
  cases c
  · exact decide_eq_false fun k => by have := h.2 k; cases this
  · exact decide_eq_true (h.1 rfl)
theorem rng_out {a n : Int} (h : rng a n = true) : 1 ≤ n ∧ n ≤ 8 ∧ 0 ≤ a ∧ a ≤ 1099511627776 := of_decide_eq_true h

theorem overlap_any (a n b m : Int) (w : World) :
    Calls Tryd.prog 28 #[.int .i64 a, .int .i64 n, .int .i64 b, .int .i64 m] w fun e w' => e = .returned (.bool (ovl a n b m)) ∧ w = w' := by
  by_cases h1 : rng a n = true
  · by_cases h2 : rng b m = true
    · have g1 := rng_out h1
      have g2 := rng_out h2
      obtain ⟨n1, n8, a0, a40⟩ := g1
      obtain ⟨m1, m8, b0, b40⟩ := g2
      obtain ⟨N, hN⟩ : ∃ N : Nat, n = (N : Int) := ⟨n.toNat, by omega⟩
      obtain ⟨M, hM⟩ : ∃ M : Nat, m = (M : Int) := ⟨m.toNat, by omega⟩
      subst hN hM
      have HO := Lib.hid (ovl_mk h1 h2)
      go_enter Tryd.func28, Tryd.ntmps28
      go_wp2
      go_step3
      go_wp2_with (go_at_call 31; refine (isRange_any _ _ _).mono ?_; rintro e w' ⟨rfl, rfl⟩)
      clear h1 h2
      go_step3
      go_wp2
      go_loopg [9, 10, 23] N (fun g s9 s10 s23 wx => w = wx ∧ ∃ i : Nat, i + g = N ∧ s23 = .int .i64 i ∧ s9 = .bool false ∧ (a + i ≤ b ∨ b + M ≤ a ∨ i = 0))
      case atStart => exact ⟨rfl, 0, by omega, rfl, rfl, by omega⟩
      case round =>
        obtain ⟨rfl, i, hi, rfl, rfl, hinv⟩ := hrel
        by_cases hlt : i < N
        · go_wp2
          go_loopg [9, 27] M (fun h t9 t27 wy => w = wy ∧ ∃ j : Nat, j + h = M ∧ t27 = .int .i64 j ∧ t9 = .bool false ∧ (a + i < b ∨ b + j ≤ a + i))
          case atStart => exact ⟨rfl, 0, by omega, rfl, rfl, by omega⟩
          case round =>
            obtain ⟨rfl, j, hj, rfl, rfl, hinw⟩ := hrel
            by_cases hjm : j < M
            · by_cases hh : a + (i : Int) = b + (j : Int)
              · have ht : (a + (i : Int) == b + (j : Int)) = true := beq_iff_eq.2 hh
                have HH := Lib.hid hh; clear hh
                go_wp2
                try rw [Exit.noGoto_ret]
                go_ret
                exact ⟨ret_bool (HO.out true (by have := HH.out; constructor; intro; omega; simp)).symm, rfl⟩
              · have ht : (a + (i : Int) == b + (j : Int)) = false := beq_eq_false_iff_ne.2 hh
                have HH := Lib.hid hh; clear hh
                go_wp2
                go_roundg (M - (j + 1))
                case measure => omega
                case rel => exact ⟨rfl, j + 1, by omega, by go_num, rfl, by have := HH.out; omega⟩
            · go_wp2
              go_roundg (N - (i + 1))
              case measure => omega
              case rel => exact ⟨rfl, i + 1, by omega, by go_num, rfl, by omega⟩
        · go_wp2
          try rw [Exit.noGoto_ret]
          go_ret
          exact ⟨ret_bool (HO.out false (by constructor; simp; omega)).symm, rfl⟩
    · have HF : Hid (ovl a n b m = false) := by unfold ovl; rw [Bool.eq_false_iff.2 h2]; simp [Hid]
      have h2' := Bool.eq_false_iff.2 h2
      go_enter Tryd.func28, Tryd.ntmps28
      go_wp2
      go_step3
      go_wp2_with (go_at_call 31; refine (isRange_any _ _ _).mono ?_; rintro e w' ⟨rfl, rfl⟩)
      try rw [Exit.noGoto_ret]
      go_ret
      exact ⟨ret_bool HF.out.symm, rfl⟩
  · have HF : Hid (ovl a n b m = false) := by unfold ovl; rw [Bool.eq_false_iff.2 h1]; simp [Hid]
    have h1' := Bool.eq_false_iff.2 h1
    go_enter Tryd.func28, Tryd.ntmps28
    go_wp2
    go_step3
    go_wp2_with (go_at_call 31; refine (isRange_any _ _ _).mono ?_; rintro e w' ⟨rfl, rfl⟩)
    try rw [Exit.noGoto_ret]
    go_ret
    exact ⟨ret_bool HF.out.symm, rfl⟩

theorem ovl_eq (a n b m : Int) (c : Bool) (h : c = true ↔ ((1 ≤ n ∧ n ≤ 8 ∧ 0 ≤ a ∧ a ≤ 1099511627776) ∧ (1 ≤ m ∧ m ≤ 8 ∧ 0 ≤ b ∧ b ≤ 1099511627776) ∧ a < b + m ∧ b < a + n)) : c = ovl a n b m := by
  unfold ovl rng
  rw [Bool.eq_iff_iff, h]
  simp only [Bool.and_eq_true, decide_eq_true_eq, and_assoc]

/-- An address is a multiple of a size. -/
def alg (a n : Int) : Bool := decide ((n = 1 ∨ n = 2 ∨ n = 4 ∨ n = 8) ∧ 0 ≤ a ∧ a % n = 0)
theorem alg_eq (a n : Int) (c : Bool) (h : c = true ↔ ((n = 1 ∨ n = 2 ∨ n = 4 ∨ n = 8) ∧ 0 ≤ a ∧ a % n = 0)) : c = alg a n := by
  unfold alg
  rw [Bool.eq_iff_iff, h, decide_eq_true_eq]

end Go.Proofs.YtoaonoflekcccaaDoor
