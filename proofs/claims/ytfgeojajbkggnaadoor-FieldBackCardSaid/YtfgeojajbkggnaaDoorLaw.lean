/- The laws on immediates, walked. -/
import Derived.Test.YtfgeojajbkggnaaDoorRows
import Derived.Test.YtfgeojajbkggnaaDoorFd
import Derived.Test.YtfgeojajbkggnaaDoorBk
import Derived.Test.YtfgeojajbkggnaaDoorRp
import Derived.Test.YtfgeojajbkggnaaDoorLd
import Derived.WalkKit
import Derived.WalkLawsBesides
import Derived.Deep.QuietTactic
import Derived.BigQuiet
import Derived.WalkSmall
import Derived.WalkSpells
import Derived.Lib.Hide
import Derived.Below
import Derived.Deep.Cut
import Derived.LoopTactic
namespace Go.Proofs.YtfgeojajbkggnaaDoor
open Go.RowKit

/-- The world is one behind W, with all that W had. -/
def BW (W w : World) : Prop := Below W.heap.size W w
theorem BW.tab {W w : World} (h : BW W w) (hT : Tab W) : Tab w := hT.below h hT.pos
theorem BW.on {W w w' : World} (h : BW W w) (hb : Below w.heap.size w w') : BW W w' := Below.trans h (hb.mono (Below.size h))
section
variable (W w : World) (h : BW W w)
include h
theorem put_bw (hT : Tab W) (f x : Int) : Calls Tryd.prog 7 #[.int .i64 f, .int .i64 x] w fun e w' => e = .returned (.tuple #[.int .u32 (putV f x), .bool (mayB f x)]) ∧ BW W w' :=
  (put_c f x w (h.tab hT)).mono fun _ _ ⟨he, hb⟩ => ⟨he, h.on hb⟩
theorem get_bw (hT : Tab W) (f v : Int) (hv0 : 0 ≤ v) (hv1 : v < 4294967296) : Calls Tryd.prog 10 #[.int .i64 f, .int .u32 v] w fun e w' => e = .returned (.int .i64 (getK f v 32)) ∧ BW W w' :=
  (get_c f v hv0 hv1 w (h.tab hT)).mono fun _ _ ⟨he, hb⟩ => ⟨he, h.on hb⟩
theorem mask_bw (hT : Tab W) (f : Int) : Calls Tryd.prog 12 #[.int .i64 f] w fun e w' => e = .returned (.int .u32 (mskK f 32)) ∧ BW W w' :=
  (mask_c f w (h.tab hT)).mono fun _ _ ⟨he, hb⟩ => ⟨he, h.on hb⟩
theorem rput_bw (f x : Int) : Calls Tryd.prog 9 #[.int .i64 f, .int .i64 x] w fun e w' => e = .returned (.int .u32 (putK f (x % 18446744073709551616) 32)) ∧ BW W w' :=
  (rput_any f x w).mono fun _ _ ⟨he, hb⟩ => ⟨he, h.on hb⟩
theorem rget_bw (f v : Int) (hv0 : 0 ≤ v) (hv1 : v < 4294967296) : Calls Tryd.prog 11 #[.int .i64 f, .int .u32 v] w fun e w' => e = .returned (.int .i64 (getK f v 32)) ∧ BW W w' :=
  (rget_any f v hv0 hv1 w).mono fun _ _ ⟨he, hb⟩ => ⟨he, h.on hb⟩
theorem rmask_bw (f : Int) : Calls Tryd.prog 13 #[.int .i64 f] w fun e w' => e = .returned (.int .u32 (mskK f 32)) ∧ BW W w' :=
  (rmask_any f w).mono fun _ _ ⟨he, hb⟩ => ⟨he, h.on hb⟩
end

theorem alive_any (W w : World) (hT : Tab W) (h : BW W w) : Calls Tryd.prog 6 #[] w fun e w' => e = .returned (.bool true) ∧ BW W w' := by
  have m1 : mayB 1 (-1) = true := by decide
  have p1 : putV 1 (-1) = 4293918720 := by unfold putV; rw [m1]; decide
  have m2 : mayB 5 1 = false := by decide
  have p2 : putV 5 1 = 0 := by unfold putV; rw [m2]; rfl
  have g1 : getK 3 2147483648 32 = -4096 := by decide
  have k1 : mskK 4 32 = 4294963200 := by decide
  have H1 := fun w h => put_bw W w h hT 1 (-1)
  have H2 := fun w h => put_bw W w h hT 5 1
  have H3 := fun w h => get_bw W w h hT 3 2147483648 (by decide) (by decide)
  have H4 := fun w h => mask_bw W w h hT 4
  rw [m1, p1] at H1
  rw [m2, p2] at H2
  rw [g1] at H3
  rw [k1] at H4
  clear m1 p1 m2 p2 g1 k1
  go_enter Tryd.func6, Tryd.ntmps6
  go_wp2_with (first
    | (go_at_call 7; ((with_reducible refine (H1 _ (by assumption)).mono ?_); rintro e w' ⟨rfl, HB⟩))
    | (go_at_call 7; ((with_reducible refine (H2 _ (by assumption)).mono ?_); rintro e w' ⟨rfl, HB⟩))
    | (go_at_call 10; refine (H3 _ (by assumption)).mono ?_; rintro e w' ⟨rfl, HB⟩)
    | (go_at_call 12; refine (H4 _ (by assumption)).mono ?_; rintro e w' ⟨rfl, HB⟩))
  go_ret
  exact ⟨rfl, by assumption⟩

set_option maxRecDepth 100000 in
theorem puts_law (f x : Int) (W : World) (hT : Tab W) :
    Calls Tryd.prog 3 #[.int .i64 f, .int .i64 x] W fun e w' => e = .returned (.bool true) ∧ Below W.heap.size W w' := by
  have HB : BW W W := Below.refl _ _
  go_enter Tryd.func3, Tryd.ntmps3
  go_wp2_with (first
    | (go_at_call 6; refine (alive_any W _ hT (by assumption)).mono ?_; rintro e w' ⟨rfl, HB⟩))
  go_loopg [5] 7 (fun gg v5 wr => BW W wr ∧ ∃ j : Nat, v5 = .int .i64 j ∧ j + gg = 7)
  case atStart => exact ⟨by assumption, 0, rfl, by omega⟩
  case round =>
    obtain ⟨hbw, j, rfl, hj⟩ := hrel
    obtain ⟨w2, rfl⟩ : ∃ w2 : World, w2 = wr := ⟨_, rfl⟩
    by_cases hj7 : j < 7
    · have hj7' : (j : Int) < 7 := by omega
      by_cases hj0 : j = 0
      · have hz : ((j : Int) == 0) = true := by simp; omega
        have HJ0 := Lib.hid hj0
        clear hj0
        cases hm : mayB f x
        · have hp : putV f x = 0 := by unfold putV; rw [hm]; rfl
          have H1 := fun w h => put_bw W w h hT f x
          have H2 := may_any f x
          rw [hm, hp] at H1
          rw [hm] at H2
          have HM := Lib.hid hm
          have HP := Lib.hid hp
          clear hm hp
          go_wp2_with (first
            | (go_at_call 7; refine (H1 _ (by assumption)).mono ?_; rintro e w' ⟨rfl, HB⟩)
            | (go_at_call 8; refine (H2 _).mono ?_; rintro e w' ⟨rfl, rfl⟩))
          go_roundg (7 - (j + 1))
          case measure => omega
          case rel => exact ⟨by assumption, j + 1, by go_num, by omega⟩
        · have hp : putK f (x % 18446744073709551616) 32 = putV f x := by unfold putV; rw [hm]; rfl
          have H1 := fun w h => put_bw W w h hT f x
          have H2 := may_any f x
          have H3 := fun w h => rput_bw W w h f x
          rw [hm] at H1 H2
          rw [hp] at H3
          have HM := Lib.hid hm
          have HP := Lib.hid hp
          clear hm hp
          generalize putV f x = P at *
          go_wp2_with (first
            | (go_at_call 7; refine (H1 _ (by assumption)).mono ?_; rintro e w' ⟨rfl, HB⟩)
            | (go_at_call 9; refine (H3 _ (by assumption)).mono ?_; rintro e w' ⟨rfl, HB⟩)
            | (go_at_call 8; refine (H2 _).mono ?_; rintro e w' ⟨rfl, rfl⟩))
          go_roundg (7 - (j + 1))
          case measure => omega
          case rel => exact ⟨by assumption, j + 1, by go_num, by omega⟩
      · have hz : ((j : Int) == 0) = false := by simp; omega
        cases hm : mayB (j : Int) x
        · have hp : putV (j : Int) x = 0 := by unfold putV; rw [hm]; rfl
          have H1 := fun w h => put_bw W w h hT (j : Int) x
          have H2 := may_any (j : Int) x
          rw [hm, hp] at H1
          rw [hm] at H2
          have HM := Lib.hid hm
          have HP := Lib.hid hp
          clear hm hp
          go_wp2_with (first
            | (go_at_call 7; refine (H1 _ (by assumption)).mono ?_; rintro e w' ⟨rfl, HB⟩)
            | (go_at_call 8; refine (H2 _).mono ?_; rintro e w' ⟨rfl, rfl⟩))
          go_roundg (7 - (j + 1))
          case measure => omega
          case rel => exact ⟨by assumption, j + 1, by go_num, by omega⟩
        · have hp : putK (j : Int) (x % 18446744073709551616) 32 = putV (j : Int) x := by unfold putV; rw [hm]; rfl
          have H1 := fun w h => put_bw W w h hT (j : Int) x
          have H2 := may_any (j : Int) x
          have H3 := fun w h => rput_bw W w h (j : Int) x
          rw [hm] at H1 H2
          rw [hp] at H3
          have HM := Lib.hid hm
          have HP := Lib.hid hp
          clear hm hp
          generalize putV (j : Int) x = P at *
          go_wp2_with (first
            | (go_at_call 7; refine (H1 _ (by assumption)).mono ?_; rintro e w' ⟨rfl, HB⟩)
            | (go_at_call 9; refine (H3 _ (by assumption)).mono ?_; rintro e w' ⟨rfl, HB⟩)
            | (go_at_call 8; refine (H2 _).mono ?_; rintro e w' ⟨rfl, rfl⟩))
          go_roundg (7 - (j + 1))
          case measure => omega
          case rel => exact ⟨by assumption, j + 1, by go_num, by omega⟩
    · obtain rfl : j = 7 := by omega
      go_wp2_with (first
        | (go_at_call 6; refine (alive_any W _ hT (by assumption)).mono ?_; rintro e w' ⟨rfl, HB⟩))
      go_ret
      exact ⟨rfl, by assumption⟩

set_option maxRecDepth 100000 in
theorem gets_law (f v : Int) (W : World) (hT : Tab W) (hv0 : 0 ≤ v) (hv1 : v < 4294967296) :
    Calls Tryd.prog 4 #[.int .i64 f, .int .u32 v] W fun e w' => e = .returned (.bool true) ∧ Below W.heap.size W w' := by
  have HB : BW W W := Below.refl _ _
  go_enter Tryd.func4, Tryd.ntmps4
  go_wp2_with (first
    | (go_at_call 6; refine (alive_any W _ hT (by assumption)).mono ?_; rintro e w' ⟨rfl, HB⟩))
  go_loopg [5] 7 (fun gg v5 wr => BW W wr ∧ ∃ j : Nat, v5 = .int .i64 j ∧ j + gg = 7)
  case atStart => exact ⟨by assumption, 0, rfl, by omega⟩
  case round =>
    obtain ⟨hbw, j, rfl, hj⟩ := hrel
    obtain ⟨w2, rfl⟩ : ∃ w2 : World, w2 = wr := ⟨_, rfl⟩
    by_cases hj7 : j < 7
    · have hj7' : (j : Int) < 7 := by omega
      by_cases hj0 : j = 0
      · have hz : ((j : Int) == 0) = true := by simp; omega
        have HJ0 := Lib.hid hj0
        clear hj0
        have H1 := fun w h => get_bw W w h hT f v hv0 hv1
        have H2 := fun w h => rget_bw W w h f v hv0 hv1
        have H3 := fun w h => mask_bw W w h hT f
        have H4 := fun w h => rmask_bw W w h f
        generalize getK f v 32 = g at *
        generalize mskK f 32 = m at *
        go_wp2_with (first
          | (go_at_call 10; refine (H1 _ (by assumption)).mono ?_; rintro e w' ⟨rfl, HB⟩)
          | (go_at_call 11; refine (H2 _ (by assumption)).mono ?_; rintro e w' ⟨rfl, HB⟩)
          | (go_at_call 12; refine (H3 _ (by assumption)).mono ?_; rintro e w' ⟨rfl, HB⟩)
          | (go_at_call 13; refine (H4 _ (by assumption)).mono ?_; rintro e w' ⟨rfl, HB⟩))
        go_roundg (7 - (j + 1))
        case measure => omega
        case rel => exact ⟨by assumption, j + 1, by go_num, by omega⟩
      · have hz : ((j : Int) == 0) = false := by simp; omega
        have H1 := fun w h => get_bw W w h hT (j : Int) v hv0 hv1
        have H2 := fun w h => rget_bw W w h (j : Int) v hv0 hv1
        have H3 := fun w h => mask_bw W w h hT (j : Int)
        have H4 := fun w h => rmask_bw W w h (j : Int)
        generalize getK (j : Int) v 32 = g at *
        generalize mskK (j : Int) 32 = m at *
        go_wp2_with (first
          | (go_at_call 10; refine (H1 _ (by assumption)).mono ?_; rintro e w' ⟨rfl, HB⟩)
          | (go_at_call 11; refine (H2 _ (by assumption)).mono ?_; rintro e w' ⟨rfl, HB⟩)
          | (go_at_call 12; refine (H3 _ (by assumption)).mono ?_; rintro e w' ⟨rfl, HB⟩)
          | (go_at_call 13; refine (H4 _ (by assumption)).mono ?_; rintro e w' ⟨rfl, HB⟩))
        go_roundg (7 - (j + 1))
        case measure => omega
        case rel => exact ⟨by assumption, j + 1, by go_num, by omega⟩
    · obtain rfl : j = 7 := by omega
      go_wp2_with (first
        | (go_at_call 6; refine (alive_any W _ hT (by assumption)).mono ?_; rintro e w' ⟨rfl, HB⟩))
      go_ret
      exact ⟨rfl, by assumption⟩

set_option maxRecDepth 100000 in
theorem back_law (x v o : Int) (W : World) (hT : Tab W) (hv0 : 0 ≤ v) (hv1 : v < 4294967296) (ho0 : 0 ≤ o) (ho1 : o < 4294967296) :
    Calls Tryd.prog 5 #[.int .i64 x, .int .u32 v, .int .u32 o] W fun e w' => e = .returned (.bool true) ∧ Below W.heap.size W w' := by
  have HB : BW W W := Below.refl _ _
  go_enter Tryd.func5, Tryd.ntmps5
  go_wp2_with (first
    | (go_at_call 6; refine (alive_any W _ hT (by assumption)).mono ?_; rintro e w' ⟨rfl, HB⟩))
  go_loopg [7] 5 (fun gg v5 wr => BW W wr ∧ ∃ j : Nat, v5 = .int .i64 j ∧ j + gg = 6 ∧ 1 ≤ j)
  case atStart => exact ⟨by assumption, 1, rfl, by omega, by omega⟩
  case round =>
    obtain ⟨hbw, j, rfl, hj, hj1⟩ := hrel
    obtain ⟨w2, rfl⟩ : ∃ w2 : World, w2 = wr := ⟨_, rfl⟩
    by_cases hj7 : j < 6
    · have hj7' : (j : Int) < 6 := by omega
      have hj5 : j ≤ 5 := by omega
      obtain ⟨g1, g2⟩ := put_get hj1 hj5 hv0 hv1
      have hmv : mayB j (getK j v 32) = true := decide_eq_true g1
      have hpv : putV j (getK j v 32) = keepB j v := by unfold putV; rw [hmv]; exact g2
      have ha := and_mask hj1 hj5 hv0 hv1
      have hn := not_mask hj1 hj5 ho0 ho1
      have hor := or_other hj1 hj5 hv0 hv1 ho0 ho1
      obtain ⟨⟨r0, r1⟩, hr⟩ := get_other (o := o) hj1 hj5 hv0 hv1 ho0
      have hG := getK_range j v 32 (by decide)
      have H2 := fun w h => put_bw W w h hT j (getK j v 32)
      have H4 := fun w h => get_bw W w h hT j v hv0 hv1
      have H5 := fun w h => get_bw W w h hT j (keepB j v + restB j o) r0 r1
      have H6 := fun w h => mask_bw W w h hT j
      rw [hmv, hpv] at H2
      rw [hr] at H5
      clear g1 g2 hmv hpv hr hG
      cases hm : mayB j x
      · have hp : putV j x = 0 := by unfold putV; rw [hm]; rfl
        have H1 := fun w h => put_bw W w h hT j x
        rw [hm, hp] at H1
        have H3 := H4
        have HM := Lib.hid hm
        have HP := Lib.hid hp
        clear hm hp
        generalize keepB j v + restB j o = R at *
        generalize keepB j v = kp at *
        generalize restB j o = rs at *
        generalize getK j v 32 = G at *
        generalize mskK j 32 = M at *
        go_wp2_with (first
          | (go_at_call 7; ((with_reducible refine (H1 _ (by assumption)).mono ?_); rintro e w' ⟨rfl, HB⟩))
          | (go_at_call 7; ((with_reducible refine (H2 _ (by assumption)).mono ?_); rintro e w' ⟨rfl, HB⟩))
          | (go_at_call 10; ((with_reducible refine (H3 _ (by assumption)).mono ?_); rintro e w' ⟨rfl, HB⟩))
          | (go_at_call 10; ((with_reducible refine (H4 _ (by assumption)).mono ?_); rintro e w' ⟨rfl, HB⟩))
          | (go_at_call 10; ((with_reducible refine (H5 _ (by assumption)).mono ?_); rintro e w' ⟨rfl, HB⟩))
          | (go_at_call 12; refine (H6 _ (by assumption)).mono ?_; rintro e w' ⟨rfl, HB⟩))
        go_roundg (6 - (j + 1))
        case measure => omega
        case rel => exact ⟨by assumption, j + 1, by go_num, by omega, by omega⟩
      · have hmx : May j x := of_decide_eq_true hm
        obtain ⟨q1, q2⟩ := get_put hj1 hj5 hmx
        have hp : putK j (x % 18446744073709551616) 32 = putV j x := by unfold putV; rw [hm]; rfl
        have hpr := putK_range j (x % 18446744073709551616) 32
        have e32 : (2 : Int) ^ 32 = 4294967296 := by decide
        rw [hp] at q1 q2 hpr
        rw [e32] at hpr
        have hnp := not_mask hj1 hj5 hpr.1 hpr.2
        rw [q2] at hnp
        have H1 := fun w h => put_bw W w h hT j x
        have H3 := fun w h => get_bw W w h hT j (putV j x) hpr.1 hpr.2
        rw [hm] at H1
        rw [q1] at H3
        have HM := Lib.hid hm
        have HP := Lib.hid hp
        clear hm hp q1 q2 hmx e32
        obtain ⟨hp0, hp1⟩ := hpr
        generalize putV j x = P at *
        generalize keepB j v + restB j o = R at *
        generalize keepB j v = kp at *
        generalize restB j o = rs at *
        generalize getK j v 32 = G at *
        generalize mskK j 32 = M at *
        go_wp2_with (first
          | (go_at_call 7; ((with_reducible refine (H1 _ (by assumption)).mono ?_); rintro e w' ⟨rfl, HB⟩))
          | (go_at_call 7; ((with_reducible refine (H2 _ (by assumption)).mono ?_); rintro e w' ⟨rfl, HB⟩))
          | (go_at_call 10; ((with_reducible refine (H3 _ (by assumption)).mono ?_); rintro e w' ⟨rfl, HB⟩))
          | (go_at_call 10; ((with_reducible refine (H4 _ (by assumption)).mono ?_); rintro e w' ⟨rfl, HB⟩))
          | (go_at_call 10; ((with_reducible refine (H5 _ (by assumption)).mono ?_); rintro e w' ⟨rfl, HB⟩))
          | (go_at_call 12; refine (H6 _ (by assumption)).mono ?_; rintro e w' ⟨rfl, HB⟩))
        go_roundg (6 - (j + 1))
        case measure => omega
        case rel => exact ⟨by assumption, j + 1, by go_num, by omega, by omega⟩
    · obtain rfl : j = 6 := by omega
      go_wp2_with (first
        | (go_at_call 6; refine (alive_any W _ hT (by assumption)).mono ?_; rintro e w' ⟨rfl, HB⟩))
      go_ret
      exact ⟨rfl, by assumption⟩

/-! ### The laws as the claims ask them -/
theorem wf_u32_out {a : Int} (h : (Lit.int .u32 a).wf = true) : 0 ≤ a ∧ a < 4294967296 := by
  simp [Lit.wf, IntKind.min, IntKind.max, IntKind.signed, IntKind.bits] at h; omega
theorem tab_laid {W : World} (hL : laidMetH Tryd.prog Rows.fieldPutsRow.laid W) : Tab W := by
  have h := flat_met (d := Rows.laid_undertow_field_layouts) (g := 0) (t := 42) 8 hL (List.mem_singleton.2 rfl) (by kernel_rfl) (by kernel_rfl) (by kernel_rfl) (by kernel_rfl)
  have e : flatD 8 Rows.laid_undertow_field_layouts = tabL.map (Value.int .i64) := by kernel_rfl
  intro i hi
  refine h i _ ?_
  rw [e, List.getElem?_map, List.getD_eq_getElem?_getD, List.getElem?_eq_getElem (show i < tabL.length from hi)]
  rfl
theorem fieldPuts_law (f x : Int) (W : World) (hL : laidMetH Tryd.prog Rows.fieldPutsRow.laid W) (_ : (Lit.int .i64 f).wf = true) (_ : (Lit.int .i64 x).wf = true) :
    Calls Tryd.prog 3 #[.int .i64 f, .int .i64 x] W fun e w' => e = .returned (.bool true) ∧ Below W.heap.size W w' := puts_law f x W (tab_laid hL)
theorem fieldGets_law (f v : Int) (W : World) (hL : laidMetH Tryd.prog Rows.fieldGetsRow.laid W) (_ : (Lit.int .i64 f).wf = true) (wv : (Lit.int .u32 v).wf = true) :
    Calls Tryd.prog 4 #[.int .i64 f, .int .u32 v] W fun e w' => e = .returned (.bool true) ∧ Below W.heap.size W w' := gets_law f v W (tab_laid hL) (wf_u32_out wv).1 (wf_u32_out wv).2
theorem fieldBack_law (x v o : Int) (W : World) (hL : laidMetH Tryd.prog Rows.fieldBackRow.laid W) (_ : (Lit.int .i64 x).wf = true) (wv : (Lit.int .u32 v).wf = true) (wo : (Lit.int .u32 o).wf = true) :
    Calls Tryd.prog 5 #[.int .i64 x, .int .u32 v, .int .u32 o] W fun e w' => e = .returned (.bool true) ∧ Below W.heap.size W w' := back_law x v o W (tab_laid hL) (wf_u32_out wv).1 (wf_u32_out wv).2 (wf_u32_out wo).1 (wf_u32_out wo).2
end Go.Proofs.YtfgeojajbkggnaaDoor
