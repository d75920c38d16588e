/- The contracts of the program's Put, Get and Mask. -/
import Derived.Test.YtfgeojajbkggnaaDoorRows
import Derived.Test.YtfgeojajbkggnaaDoorSp
import Derived.Test.YtfgeojajbkggnaaDoorGt
import Derived.Test.YtfgeojajbkggnaaDoorMy
import Derived.Test.YtfgeojajbkggnaaDoorBk
import Derived.WalkKit
import Derived.WalkLawsBesides
import Derived.WalkSmall
import Derived.WalkSpells
import Derived.Lib.Hide
import Derived.Below
namespace Go.Proofs.YtfgeojajbkggnaaDoor
open Go.RowKit

theorem ret_ub {a c : Int} {b d : Bool} (h : a = c) (g : b = d) : Ending.returned (.tuple #[.int .u32 a, .bool b]) = .returned (.tuple #[.int .u32 c, .bool d]) := by rw [h, g]
def putV (f x : Int) : Int := if mayB f x then putK f (x % 18446744073709551616) 32 else 0
theorem Tab.pos {w : World} (h : Tab w) : 0 < w.heap.size := World.block_lt_of_cell? w _ (h 0 (by decide))
theorem getK_no {f : Int} (h : ¬ (1 ≤ f ∧ f ≤ 5)) (v : Int) : getK f v 32 = 0 := by
  have := getK_gap (f := f) (w := v) 0 32 (fun i _ => plc_no h _)
  rw [Nat.zero_add] at this; rw [this]; rfl
theorem putK_no {f : Int} (h : ¬ (1 ≤ f ∧ f ≤ 5)) (v : Int) : putK f v 32 = 0 := by
  have := putK_gap (f := f) (u := v) 0 32 (fun i _ => plc_no h _)
  rw [Nat.zero_add] at this; rw [this]; rfl
theorem may_no {f : Int} (h : ¬ (1 ≤ f ∧ f ≤ 5)) (x : Int) : mayB f x = false := decide_eq_false (by unfold May; omega)

theorem get_c (f v : Int) (hv0 : 0 ≤ v) (hv1 : v < 4294967296) (w : World) (hT : Tab w) :
    Calls Tryd.prog 10 #[.int .i64 f, .int .u32 v] w fun e w' => e = .returned (.int .i64 (getK f v 32)) ∧ Below w.heap.size w w' := by
  by_cases h : 1 ≤ f ∧ f ≤ 5
  · have hf : f = 1 ∨ f = 2 ∨ f = 3 ∨ f = 4 ∨ f = 5 := by omega
    rcases hf with rfl | rfl | rfl | rfl | rfl
    · exact get1_c v w hv0 hv1 hT
    · exact get2_c v w hv0 hv1 hT
    · exact get3_c v w hv0 hv1 hT
    · exact get4_c v w hv0 hv1 hT
    · exact get5_c v w hv0 hv1 hT
  · rw [getK_no h]
    have HK := fun w => known_no f h w
    clear h hT hv1
    go_enter Tryd.func10, Tryd.ntmps10
    go_wp2
    go_step3
    go_wp2_with (first
      | (go_at_call 14; refine (HK _).mono ?_; rintro e w' ⟨rfl, rfl⟩))
    try rw [Exit.noGoto_ret]
    go_ret
    exact ⟨rfl, Below.refl _ _⟩
theorem spread_c (f h : Int) (h0 : 0 ≤ h) (h1 : h < 4294967296) (w : World) (hT : Tab w) :
    Calls Tryd.prog 15 #[.int .i64 f, .int .u32 h] w fun e w' => e = .returned (.int .u32 (putK f h 32)) ∧ Below w.heap.size w w' := by
  by_cases hk : 1 ≤ f ∧ f ≤ 5
  · have hf : f = 1 ∨ f = 2 ∨ f = 3 ∨ f = 4 ∨ f = 5 := by omega
    rcases hf with rfl | rfl | rfl | rfl | rfl
    · exact spread1 h w h0 h1 hT
    · exact spread2 h w h0 h1 hT
    · exact spread3 h w h0 h1 hT
    · exact spread4 h w h0 h1 hT
    · exact spread5 h w h0 h1 hT
  · rw [putK_no hk]
    have HK := fun w => known_no f hk w
    clear hk hT h1
    go_enter Tryd.func15, Tryd.ntmps15
    go_wp2
    go_step3
    go_wp2_with (first
      | (go_at_call 14; refine (HK _).mono ?_; rintro e w' ⟨rfl, rfl⟩))
    try rw [Exit.noGoto_ret]
    go_ret
    exact ⟨rfl, Below.refl _ _⟩
/-- Bits above the low 32 are in no word. -/
theorem putK_low (f : Int) {u : Int} (hu : 0 ≤ u) : ∀ k : Nat, k ≤ 32 → putK f (u % 4294967296) k = putK f u k
  | 0, _ => rfl
  | k + 1, hk => by
    rw [putK_succ, putK_succ, putK_low f hu k (by omega)]
    have hr := plc_range f k (by omega)
    by_cases h0 : 0 ≤ plc f k
    · obtain ⟨n, hn⟩ : ∃ n : Nat, (plc f k).toNat = n := ⟨_, rfl⟩
      rw [hn]
      have hn31 : n ≤ 31 := by omega
      have e : u % 4294967296 / 2 ^ n % 2 = u / 2 ^ n % 2 := by
        obtain ⟨a, rfl⟩ := Int.eq_ofNat_of_zero_le hu
        have h := Nat.testBit_mod_two_pow a 32 n
        have hl : n < 32 := by omega
        simp only [hl, decide_true, Bool.true_and] at h
        rw [Nat.testBit_eq_decide_div_mod_eq, Nat.testBit_eq_decide_div_mod_eq] at h
        have h2 : (a % 2 ^ 32 / 2 ^ n % 2 = 1) ↔ (a / 2 ^ n % 2 = 1) := by simpa using h
        have h3 : a % 2 ^ 32 / 2 ^ n % 2 = a / 2 ^ n % 2 := by
          have := Nat.mod_two_eq_zero_or_one (a % 2 ^ 32 / 2 ^ n)
          have := Nat.mod_two_eq_zero_or_one (a / 2 ^ n)
          omega
        have h4 : ((a % 2 ^ 32 / 2 ^ n % 2 : Nat) : Int) = ((a / 2 ^ n % 2 : Nat) : Int) := by rw [h3]
        simp only [Int.natCast_emod, Int.natCast_ediv, Int.natCast_pow, Int.cast_ofNat_Int] at h4
        exact h4
      rw [e]
    · rw [if_neg (fun g => h0 g.1), if_neg (fun g => h0 g.1)]
theorem mask_all (f : Int) : putK f 4294967295 32 = mskK f 32 := by
  by_cases h : 1 ≤ f ∧ f ≤ 5
  · have hf : f = 1 ∨ f = 2 ∨ f = 3 ∨ f = 4 ∨ f = 5 := by omega
    rcases hf with rfl | rfl | rfl | rfl | rfl
    · rw [put1 (by decide), msk1]; decide
    · rw [put2 (by decide), msk2]; decide
    · rw [put3 (by decide), msk3]; decide
    · rw [put4 (by decide), msk4]; decide
    · rw [put5 (by decide), msk5]; decide
  · rw [putK_no h]
    have := mskK_gap (f := f) 0 32 (fun i _ => plc_no h _)
    rw [Nat.zero_add] at this; rw [this]; rfl
theorem mask_c (f : Int) (w : World) (hT : Tab w) :
    Calls Tryd.prog 12 #[.int .i64 f] w fun e w' => e = .returned (.int .u32 (mskK f 32)) ∧ Below w.heap.size w w' := by
  have H := spread_c f 4294967295 (by decide) (by decide) w hT
  rw [mask_all] at H
  clear hT
  generalize mskK f 32 = r at *
  go_enter Tryd.func12, Tryd.ntmps12
  go_wp2_with (first
    | (go_at_call 15; refine H.mono ?_; rintro e w' ⟨rfl, hb⟩))
  go_ret
  exact ⟨rfl, hb⟩
theorem put_c (f x : Int) (w : World) (hT : Tab w) :
    Calls Tryd.prog 7 #[.int .i64 f, .int .i64 x] w fun e w' => e = .returned (.tuple #[.int .u32 (putV f x), .bool (mayB f x)]) ∧ Below w.heap.size w w' := by
  by_cases h : 1 ≤ f ∧ f ≤ 5
  · have HK := fun w => known_yes f h w
    obtain ⟨F, hF⟩ : ∃ F : Nat, f = (F : Int) := ⟨f.toNat, by omega⟩
    have hF1 : 1 ≤ F := by omega
    have hF5 : F ≤ 5 := by omega
    obtain ⟨U, hU⟩ : ∃ U, putK f (x % 18446744073709551616) 32 = U := ⟨_, rfl⟩
    obtain ⟨U0, U1⟩ := putK_range f (x % 18446744073709551616) 32
    rw [hU, show (2 : Int) ^ 32 = 4294967296 by decide] at U1
    rw [hU] at U0
    have hlow : putK f (IntKind.u32.wrap x) 32 = U := by
      rw [IntKind.wrap_u32, ← hU, ← putK_low f (u := x % 18446744073709551616) (by omega) 32 (Nat.le_refl _), show x % 18446744073709551616 % 4294967296 = x % 4294967296 by omega]
    have H1 := fun w hT => spread_c f (IntKind.u32.wrap x) (by rw [IntKind.wrap_u32]; omega) (by rw [IntKind.wrap_u32]; omega) w hT
    rw [hlow] at H1
    have H2 := fun w hT => get_c f U U0 U1 w hT
    obtain ⟨G, hG⟩ : ∃ G, getK f U 32 = G := ⟨_, rfl⟩
    rw [hG] at H2
    have hm : mayB f x = decide (G = x) := by
      refine (mayB_eq ?_).symm
      rw [decide_eq_true_eq]
      constructor
      · intro e
        have := (put_get hF1 hF5 U0 U1).1
        rw [← hF, hG, e] at this; exact this
      · intro hM
        have := (get_put hF1 hF5 (x := x) (by rw [← hF]; exact hM)).1
        rw [← hF, hU, hG] at this; exact this
    have HP : Hid (putV f x = if mayB f x then U else 0) := by show _ = _; unfold putV; rw [hU]
    have HZ := Lib.hid hT.pos
    clear hF hF1 hF5 hU U0 U1 hlow hG h
    by_cases hx : G = x
    · have HM : Hid (mayB f x = true) := by show _ = _; rw [hm]; exact decide_eq_true hx
      clear hm
      subst hx
      go_enter Tryd.func7, Tryd.ntmps7
      go_wp2_with (first
        | (go_at_call 14; refine (HK _).mono ?_; rintro e w' ⟨rfl, rfl⟩)
        | (go_at_call 15; refine (H1 _ hT).mono ?_; rintro e w1 ⟨rfl, hb1⟩)
        | (go_at_call 10; refine (H2 _ (hT.below hb1 HZ.out)).mono ?_; rintro e w2 ⟨rfl, hb2⟩))
      go_ret2
      exact ⟨ret_ub (by rw [HP.out, HM.out]; rfl) HM.out.symm, hb1.trans (hb2.mono hb1.size)⟩
    · have HM : Hid (mayB f x = false) := by show _ = _; rw [hm]; exact decide_eq_false hx
      have hne : (G != x) = true := by simp [hx]
      clear hm hx
      go_enter Tryd.func7, Tryd.ntmps7
      go_wp2_with (first
        | (go_at_call 14; refine (HK _).mono ?_; rintro e w' ⟨rfl, rfl⟩)
        | (go_at_call 15; refine (H1 _ hT).mono ?_; rintro e w1 ⟨rfl, hb1⟩)
        | (go_at_call 10; refine (H2 _ (hT.below hb1 HZ.out)).mono ?_; rintro e w2 ⟨rfl, hb2⟩))
      go_ret2
      exact ⟨ret_ub (by rw [HP.out, HM.out]; rfl) HM.out.symm, hb1.trans (hb2.mono hb1.size)⟩
  · have HK := fun w => known_no f h w
    have HM : Hid (mayB f x = false) := may_no h x
    have HP : Hid (putV f x = 0) := by show _ = _; unfold putV; rw [may_no h x]; rfl
    clear h hT
    go_enter Tryd.func7, Tryd.ntmps7
    go_wp2_with (first
      | (go_at_call 14; refine (HK _).mono ?_; rintro e w' ⟨rfl, rfl⟩))
    go_ret2
    exact ⟨ret_ub HP.out.symm HM.out.symm, Below.refl _ _⟩
end Go.Proofs.YtfgeojajbkggnaaDoor
