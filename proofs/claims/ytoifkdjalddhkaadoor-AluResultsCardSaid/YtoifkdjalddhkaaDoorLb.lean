/- The law on what follows of shifts and of what is stored, walked over what is asked of package alu. -/
import Derived.Test.YtoifkdjalddhkaaDoorRows
import Derived.Test.YtoifkdjalddhkaaDoorCa
import Derived.Test.YtoifkdjalddhkaaDoorBb
import Derived.WalkKit
import Derived.WalkLawsBesides
import Derived.Deep.QuietTactic
import Derived.BigQuiet
import Derived.WalkSmall
import Derived.WalkSpells
import Derived.Lib.Hide
import Derived.Below
import Derived.LoopTactic
import Derived.Deep.LoopGhost
import Derived.Outline
namespace Go.Proofs.YtoifkdjalddhkaaDoor
open Go.RowKit

set_option maxHeartbeats 2000000 in
theorem back8_law {W : World} (C : Calu W) (a b n : Int) (ha : U64 a) (hb : U64 b) (hn : 0 ≤ n ∧ n < 256) :
    Calls Tryd.prog 7 #[.int .u64 a, .int .u64 b, .int .u8 n] W fun e w' => e = .returned (.bool true) ∧ Below W.heap.size W w' := by
  have HB : BW W W := Below.refl _ _
  have L := fun w (h : BW W w) => alive_any C w h
  have HA := Lib.hid ha
  have HBB := Lib.hid hb
  clear ha hb
  go_enter Tryd.func7, Tryd.ntmps7
  go_upto_region 4 with (first
    | (go_at_call 8; refine (L _ HB).mono ?_; rintro e w1 ⟨rfl, HB1⟩))
  have hq : 0 ≤ n % 64 ∧ n % 64 < 64 := by omega
  generalize n % 64 = q at *
  clear hn
  have A1 := fun w (h : BW W w) => past h (C.result ⟨28, 0, 0, 0, q, false, false, 0, 0⟩ 0 a 0 w h ⟨by show _ ≤ (28 : Int); decide, by show (28 : Int) ≤ _; decide⟩ (by decide) HA.out (by decide))
  have hU : U64 (resV 28 q 0 a 0) := by
    obtain ⟨k, rfl⟩ : ∃ k : Nat, q = k := ⟨q.toNat, by omega⟩
    have hw : IntKind.u64.wrap (k : Int) = k := by rw [IntKind.wrap_u64]; omega
    rw [res_n (op := 28) 37 (by decide) (by decide), p_37, hw]
    unfold sllV lefV
    exact u64_U _
  have A2 := fun w (h : BW W w) => past h (C.result ⟨29, 0, 0, 0, q, false, false, 0, 0⟩ 0 (resV 28 q 0 a 0) 0 w h ⟨by show _ ≤ (29 : Int); decide, by show (29 : Int) ≤ _; decide⟩ (by decide) hU (by decide))
  have A3 := fun w => rzext_any a (64 - q) HA.out.1 HA.out.lt w
  have e2 : resV 29 q 0 (resV 28 q 0 a 0) 0 = zx a (cap64 (64 - q)) := by
    obtain ⟨k, rfl⟩ : ∃ k : Nat, q = k := ⟨q.toNat, by omega⟩
    rw [slli_srli a k (by omega)]
    congr 1
    unfold cap64
    omega
  unfold insV at A1 A2
  simp only at A1 A2
  rw [e2] at A2
  generalize zx a (cap64 (64 - q)) = z at *
  generalize resV 28 q 0 a 0 = up at *
  clear e2 hU
  go_upto_region 7 with (first
    | (go_at_call 9; ((with_reducible refine (A1 _ (by assumption)).mono ?_); rintro e w2 ⟨rfl, HB2, _⟩))
    | (go_at_call 9; ((with_reducible refine (A2 _ (by assumption)).mono ?_); rintro e w3 ⟨rfl, HB3, _⟩))
    | (go_at_call 21; ((with_reducible refine (A3 _).mono ?_); rintro e w' ⟨rfl, rfl⟩)))
  clear A1 A2 A3 HB HB1 HB2 L hq
  go_wp2
  go_loopw [9, 10] (fun v9 v10 wr => BW W wr ∧ ∃ j : Int, v9 = .int .i64 j ∧ 58 ≤ j ∧ j ≤ 76) (fun v9 v10 _ => (76 - intOf v9).toNat)
  case atStart => exact ⟨HB3, 58, rfl, by omega, by omega⟩
  case round =>
    obtain ⟨HR, j, rfl, hj⟩ := hrel
    obtain ⟨w4, rfl⟩ : ∃ w4 : World, w4 = wr := ⟨_, rfl⟩
    by_cases hlt : j ≤ 75
    · have K3 := fun w (h : BW W w) => past h (C.stored j a b w h ⟨by omega, by omega⟩ HA.out HBB.out)
      have K4 := fun w (h : BW W w) => (rsize_any j (by omega) (by omega) w).mono fun e w' (hh : _ ∧ _) => And.intro hh.1 (h.on hh.2)
      have hz := siz_capx j
      have e4 : zx (stoV j a b) (cap64 (8 * siz j)) = stoV j a b := by rw [hz.1]; exact sto_zx j a b ⟨by omega, by omega⟩
      have hs0 : 0 ≤ stoV j a b ∧ stoV j a b < 2 ^ 64 := by
        rw [← e4]
        exact ⟨zx_nonneg _ _, Int.lt_of_lt_of_le (zx_lt _ _) (two_pow_le (by unfold cap64; omega))⟩
      have K5 := fun w => rzext_any (stoV j a b) (8 * siz j) hs0.1 hs0.2 w
      rw [e4] at K5
      obtain ⟨_, z0, z8⟩ := hz
      clear e4 hs0
      generalize stoV j a b = s at *
      generalize siz j = y at *
      go_wp2_with (first
        | (go_at_call 19; ((with_reducible refine (K3 _ (by assumption)).mono ?_); rintro e w5 ⟨rfl, HB5, _⟩))
        | (go_at_call 22; ((with_reducible refine (K4 _ (by assumption)).mono ?_); rintro e w6 ⟨rfl, HB6⟩))
        | (go_at_call 21; ((with_reducible refine (K5 _).mono ?_); rintro e w' ⟨rfl, rfl⟩)))
      all_goals exact ⟨⟨by assumption, j + 1, by go_num, by omega, by omega⟩, by simp [intOf]; omega⟩
    · obtain rfl : j = 76 := by omega
      have LL := fun w (h : BW W w) => alive_any C w h
      have M := fun op (hop : 58 ≤ op ∧ op ≤ 75) w (h : BW W w) => past h (C.stored op a b w h ⟨by omega, by omega⟩ HA.out HBB.out)
      have M1 := M 72 (by decide)
      have M2 := M 73 (by decide)
      have M3 := M 74 (by decide)
      have M4 := M 75 (by decide)
      clear M
      have m1 := min_max a b HA.out HBB.out
      have m2 := minu_maxu a b HA.out HBB.out
      by_cases hab : a = b
      · subst hab
        have e1 : stoV 72 a a = a ∧ stoV 73 a a = a := by rcases m1 with h | h <;> exact h
        have e2 : stoV 74 a a = a ∧ stoV 75 a a = a := by rcases m2 with h | h <;> exact ⟨h.1, h.2.1⟩
        rw [e1.1] at M1
        rw [e1.2] at M2
        rw [e2.1] at M3
        rw [e2.2] at M4
        clear m1 m2 e1 e2
        go_wp2_with (first
          | (go_at_call 8; refine (LL _ (by assumption)).mono ?_; rintro e w' ⟨rfl, hb5⟩)
          | (go_at_call 19; ((with_reducible refine (M1 _ (by assumption)).mono ?_); rintro e w' ⟨rfl, hb6, _⟩))
          | (go_at_call 19; ((with_reducible refine (M2 _ (by assumption)).mono ?_); rintro e w' ⟨rfl, hb6, _⟩))
          | (go_at_call 19; ((with_reducible refine (M3 _ (by assumption)).mono ?_); rintro e w' ⟨rfl, hb6, _⟩))
          | (go_at_call 19; ((with_reducible refine (M4 _ (by assumption)).mono ?_); rintro e w' ⟨rfl, hb6, _⟩)))
        go_ret
        exact ⟨rfl, by assumption⟩
      · have q1 : (a == b) = false := by simp [hab]
        have q2 : (b == a) = false := by simp; omega
        rcases m1 with ⟨x1, x2⟩ | ⟨x1, x2⟩ <;> rcases m2 with ⟨x3, x4, x5⟩ | ⟨x3, x4, x5⟩ <;> rw [x1] at M1 <;> rw [x2] at M2 <;> rw [x3] at M3 <;> rw [x4] at M4 <;> clear x1 x2 x3 x4
        all_goals
          go_wp2_with (first
            | (go_at_call 8; refine (LL _ (by assumption)).mono ?_; rintro e w' ⟨rfl, hb5⟩)
            | (go_at_call 19; ((with_reducible refine (M1 _ (by assumption)).mono ?_); rintro e w' ⟨rfl, hb6, _⟩))
            | (go_at_call 19; ((with_reducible refine (M2 _ (by assumption)).mono ?_); rintro e w' ⟨rfl, hb6, _⟩))
            | (go_at_call 19; ((with_reducible refine (M3 _ (by assumption)).mono ?_); rintro e w' ⟨rfl, hb6, _⟩))
            | (go_at_call 19; ((with_reducible refine (M4 _ (by assumption)).mono ?_); rintro e w' ⟨rfl, hb6, _⟩)))
          go_ret
          exact ⟨rfl, by assumption⟩
end Go.Proofs.YtoifkdjalddhkaaDoor
