/- The laws on choosing, walked; but for the one on joining. -/
import Derived.Test.YtdhooabamoehiaaRows
import Derived.Test.YtdhooabamoehiaaRg
import Derived.Test.YtdhooabamoehiaaRr
import Derived.WalkKit
import Derived.WalkLawsBesides
import Derived.Deep.QuietTactic
import Derived.BigQuiet
import Derived.WalkSmall
import Derived.WalkSpells
import Derived.Lib.Hide
import Derived.Below
import Derived.Deep.Cut
import Derived.LoopTactic
import Derived.Deep.RegionHeld3
import Derived.Deep.DeepCutAuto
namespace Go.Proofs.Ytdhooabamoehiaa
open Go.RowKit

theorem alive_vals : chB 3 4617202927970916762 = true ∧ chV 3 4617202927970916762 = 1 ∧ olB 4602678819172646912 = true ∧ olB 4607182418800017408 = false ∧ rgB 2 5 = true ∧ winV 7 3 = 2 := by
  have h1 : chB 3 4617202927970916762 = true := by decide
  refine ⟨h1, ?_, by decide, by decide, by decide, by decide⟩
  unfold chV
  have h2 : rng 4617202927970916762 = 4617202927970916762 := by decide
  rw [h1, if_pos rfl, if_neg (by decide), if_neg (by decide), h2, stp_mid (by decide) (by decide)]
  decide

theorem info_pick : (Try.prog.info? 28).map (fun i => (i.zero, i.size, i.bytes)) = some (some (.agg #[.int .i64 0, .int .i64 0, .float .f64 0]), 3, 24) := by kernel_rfl

theorem alive_any (w : World) : Calls Try.prog 8 #[] w fun e w' => e = .returned (.bool true) ∧ Below w.heap.size w w' := by
  obtain ⟨h1, h2, h3, h4, h5, h6⟩ := alive_vals
  have H1 := of_any 3 4617202927970916762 (by decide)
  rw [h1, h2] at H1
  have H3 := oldest_any 4602678819172646912 (by decide)
  rw [h3] at H3
  have H4 := oldest_any 4607182418800017408 (by decide)
  rw [h4] at H4
  have H5 := right_any 2 5 0
  rw [h5] at H5
  have H6 := windows_any none 7 7 3
  obtain ⟨i0, hi, hz0, hz1, hz2⟩ := info_parts info_pick
  have HI := Lib.hid hi
  have HZ0 := Lib.hid hz0
  have HZ1 := Lib.hid hz1
  have HZ2 := Lib.hid hz2
  have HW := Lib.hid h6
  clear h1 h2 h3 h4 h5 h6 hi hz0 hz1 hz2
  go_enter Try.func8, Try.ntmps8
  go_wp2_with (first
    | (go_at_call 9; ((with_reducible refine (H1 _).mono ?_); rintro e w' ⟨rfl, rfl⟩))
    | (go_at_call 11; ((with_reducible refine (H3 _).mono ?_); rintro e w' ⟨rfl, rfl⟩))
    | (go_at_call 11; ((with_reducible refine (H4 _).mono ?_); rintro e w' ⟨rfl, rfl⟩))
    | (go_at_call 13; ((with_reducible refine (H5 _).mono ?_); rintro e w' ⟨rfl, hb⟩)))
  obtain ⟨w2, hrun, _, hgrow⟩ := run_make_full (P := Try.prog) w' w'.heap.size 31 28 i0 _ 3 Try.underlying31 HI.out HZ0.out HZ1.out .i64 .i64 7 (by rw [HZ2.out]; decide) (by decide) (Nat.le_refl _)
  have hb2 : Below w'.heap.size w' w2 := (Below.refl _ _).grown hgrow (Nat.le_refl _) (fun _ h => by cases h)
  have HB := Lib.hid hb
  have HB2 := Lib.hid hb2
  clear hgrow hb hb2
  rw [show ((7 : Nat) : Int) = 7 from rfl] at hrun
  have H6 := windows_any (some ⟨w'.heap.size, 0, none⟩) 7 7 3
  rw [HW.out] at H6
  simp only [hrun]
  go_wp2_with (first
    | (go_at_call 17; refine (H6 _ (by decide) (by decide)).mono ?_; rintro e w' ⟨rfl, rfl⟩))
  go_ret
  exact ⟨rfl, HB.out.trans (HB2.out.mono HB.out.size)⟩

/-- The world is one behind W, with all that W had. -/
def BW (W w : World) : Prop := Below W.heap.size W w
theorem alive_bw (W w : World) (h : BW W w) : Calls Try.prog 8 #[] w fun e w' => e = .returned (.bool true) ∧ BW W w' :=
  (alive_any w).mono fun _ _ ⟨he, hb⟩ => ⟨he, Below.trans h (hb.mono (Below.size h))⟩

theorem of_law (n : Int) (b : Nat) (hb : b < 18446744073709551616) (W : World) :
    Calls Try.prog 3 #[.int .i64 n, .float .f64 b] W fun e w' => e = .returned (.bool true) ∧ Below W.heap.size W w' := by
  have H1 := of_any n b hb
  have H2 := rof_any n b hb
  have HB : BW W W := Below.refl _ _
  generalize chV n b = c at *
  generalize chB n b = t at *
  go_enter Try.func3, Try.ntmps3
  go_wp2_with (first
    | (go_at_call 8; refine (alive_bw W _ (by assumption)).mono ?_; rintro e w' ⟨rfl, HB⟩)
    | (go_at_call 9; refine (H1 _).mono ?_; rintro e w' ⟨rfl, rfl⟩)
    | (go_at_call 10; refine (H2 _).mono ?_; rintro e w' ⟨rfl, rfl⟩))
  go_ret
  exact ⟨by simp, by assumption⟩

theorem BW.drew {W w : World} (h : BW W w) : BW W w.drew := Below.drew h
/-- The pick lies in the block that was made first. -/
def SR (W : World) (c u : Int) (b : Nat) (w : World) : Prop :=
  BW W w ∧ w.cell? ⟨W.heap.size, 0, none⟩ = some (.int .i64 c) ∧ w.cell? ⟨W.heap.size, 1, none⟩ = some (.int .i64 u) ∧ w.cell? ⟨W.heap.size, 2, none⟩ = some (.float .f64 b)
theorem SR.on {W : World} {c u : Int} {b : Nat} {w w' : World} (h : SR W c u b w) (hb : Below w.heap.size w w') : SR W c u b w' := by
  obtain ⟨h1, h2, h3, h4⟩ := h
  have hlt := World.block_lt_of_cell? w _ h2
  exact ⟨Below.trans h1 (hb.mono (Below.size h1)), (hb.cell (p := ⟨W.heap.size, 0, none⟩) hlt).trans h2, (hb.cell (p := ⟨W.heap.size, 1, none⟩) hlt).trans h3, (hb.cell (p := ⟨W.heap.size, 2, none⟩) hlt).trans h4⟩
theorem SR.start (W : World) (c u : Int) (b : Nat) (t : TypeId) : SR W c u b (W.alloc (.cells #[.int .i64 c, .int .i64 u, .float .f64 b] t)) := by
  refine ⟨(Below.refl _ _).alloc (Nat.le_refl _) _, ?_, ?_, ?_⟩ <;> simp
theorem alive_sr (W : World) (c u : Int) (b : Nat) (w : World) (h : SR W c u b w) : Calls Try.prog 8 #[] w fun e w' => e = .returned (.bool true) ∧ SR W c u b w' :=
  (alive_any w).mono fun _ _ ⟨he, hb⟩ => ⟨he, h.on hb⟩
theorem right_sr (W : World) (c u : Int) (b : Nat) (w : World) (h : SR W c u b w) : Calls Try.prog 13 #[.agg #[.int .i64 c, .int .i64 u, .float .f64 b]] w fun e w' => e = .returned (.bool (rgB c u)) ∧ SR W c u b w' :=
  (right_any c u b w).mono fun _ _ ⟨he, hb⟩ => ⟨he, h.on hb⟩
theorem rright_sr (W : World) (c u : Int) (b : Nat) (w : World) (h : SR W c u b w) : Calls Try.prog 14 #[.agg #[.int .i64 c, .int .i64 u, .float .f64 b]] w fun e w' => e = .returned (.bool (rgB c u)) ∧ SR W c u b w' :=
  (rright_any c u b w).mono fun _ _ ⟨he, hb⟩ => ⟨he, h.on hb⟩

theorem right_law (c u : Int) (b : Nat) (hb : b < 18446744073709551616) (W : World) :
    Calls Try.prog 4 #[.agg #[.int .i64 c, .int .i64 u, .float .f64 b]] W fun e w' => e = .returned (.bool true) ∧ Below W.heap.size W w' := by
  have H1 := oldest_any b hb
  have H2 := roldest_any b hb
  have H3 := right_sr W c u b
  have H4 := rright_sr W c u b
  generalize olB b = t at *
  generalize rgB c u = r at *
  have HS := Lib.hid (SR.start W c u b 28)
  go_enter Try.func4, Try.ntmps4
  go_wp2_with (first
    | (go_at_call 8; refine (alive_sr W c u b _ HS.out).mono ?_; rintro e w1 ⟨rfl, hb1, hb2, hb3, hb4⟩))
  go_region_held3 (fun w' => BW W w' ∧ w'.cell? ⟨W.heap.size, 0, none⟩ = some (.int .i64 c) ∧ w'.cell? ⟨W.heap.size, 1, none⟩ = some (.int .i64 u) ∧ w'.cell? ⟨W.heap.size, 2, none⟩ = some (.float .f64 b))
    (first | (exact ⟨by assumption, by assumption, by assumption, by assumption⟩) | (exact ⟨BW.drew (by assumption), by assumption, by assumption, by assumption⟩) | (refine ⟨?_, ?_, ?_, ?_⟩ <;> go_keep))
    (first
      | (go_at_call 8; refine (alive_sr W c u b _ ?_).mono ?_; (first | assumption | (refine ⟨?_, ?_, ?_, ?_⟩ <;> first | assumption | (simp [*]))); rintro e w' ⟨rfl, hq1, hq2, hq3, hq4⟩)
      | (go_at_call 11; refine (H1 _).mono ?_; rintro e w' ⟨rfl, rfl⟩)
      | (go_at_call 12; refine (H2 _).mono ?_; rintro e w' ⟨rfl, rfl⟩)
      | (go_at_call 13; refine (H3 _ ?_).mono ?_; (first | assumption | (refine ⟨?_, ?_, ?_, ?_⟩ <;> first | assumption | (simp [*]))); rintro e w' ⟨rfl, hq1, hq2, hq3, hq4⟩)
      | (go_at_call 14; refine (H4 _ ?_).mono ?_; (first | assumption | (refine ⟨?_, ?_, ?_, ?_⟩ <;> first | assumption | (simp [*]))); rintro e w' ⟨rfl, hq1, hq2, hq3, hq4⟩))
  all_goals go_wp2
  all_goals go_ret
  all_goals exact ⟨rfl, by assumption⟩

theorem ng_rng {b : Nat} (hb : b < 18446744073709551616) : rng (ng b) = rng b ∧ sgn (ng b) = !sgn b ∧ nanB (ng b) = nanB b := by
  have h : rng (ng b) = rng b := by unfold ng rng; split <;> split <;> omega
  refine ⟨h, ?_, by unfold nanB; rw [h]⟩
  unfold ng sgn
  by_cases g : 9223372036854775808 ≤ b
  · rw [if_pos g, decide_eq_true g, decide_eq_false (by omega)]; rfl
  · rw [if_neg g, decide_eq_false g, decide_eq_true (by omega)]; rfl
/-- What P3.4 says. -/
theorem one_facts {n : Int} {b : Nat} (hb : b < 18446744073709551616) (h1 : 1 ≤ n) (h2 : n ≤ 1048576) (hn : nanB b = false) :
    chB n b = true ∧ chB n (ng b) = true ∧ 0 ≤ chV n b ∧ chV n b < n ∧ chV n (ng b) = n - 1 - chV n b ∧ chB 1 b = true ∧ chV 1 b = 0 ∧ (olB b = true → chV n b = 0) := by
  obtain ⟨r1, r2, r3⟩ := ng_rng hb
  have hd : ∀ m : Int, 1 ≤ m → m ≤ 1048576 → chB m b = true := fun m g1 g2 => by unfold chB; rw [decide_eq_true ⟨g1, g2⟩, hn]; rfl
  have hd2 : chB n (ng b) = true := by unfold chB; rw [decide_eq_true ⟨h1, h2⟩, r3, hn]; rfl
  refine ⟨hd n h1 h2, hd2, ?_⟩
  rcases kinds hb hn with h | h | ⟨h3, h4, h5⟩
  · subst h
    have e1 : chV n 18442240474082181120 = 0 := by unfold chV; rw [hd n h1 h2, if_pos rfl, if_pos rfl]
    have e2 : chV 1 18442240474082181120 = 0 := by unfold chV; rw [hd 1 (by decide) (by decide), if_pos rfl, if_pos rfl]
    have e3 : ng 18442240474082181120 = 9218868437227405312 := by decide
    rw [e3] at hd2 ⊢
    have e4 : chV n 9218868437227405312 = n - 1 := by unfold chV; rw [hd2, if_pos rfl, if_neg (by decide), if_pos rfl]
    rw [e1, e2, e4]
    exact ⟨by omega, by omega, by omega, hd 1 (by decide) (by decide), rfl, fun _ => rfl⟩
  · subst h
    have e1 : chV n 9218868437227405312 = n - 1 := by unfold chV; rw [hd n h1 h2, if_pos rfl, if_neg (by decide), if_pos rfl]
    have e2 : chV 1 9218868437227405312 = 0 := by unfold chV; rw [hd 1 (by decide) (by decide), if_pos rfl, if_neg (by decide), if_pos rfl]; rfl
    have e3 : ng 9218868437227405312 = 18442240474082181120 := by decide
    rw [e3] at hd2 ⊢
    have e4 : chV n 18442240474082181120 = 0 := by unfold chV; rw [hd2, if_pos rfl, if_pos rfl]
    rw [e1, e2, e4]
    refine ⟨by omega, by omega, by omega, hd 1 (by decide) (by decide), rfl, fun h => ?_⟩
    exact absurd h (by decide)
  · have hlt : stp (rng b) % n.toNat < n.toNat := Nat.mod_lt _ (by omega)
    have e1 : chV n b = if sgn b then n - 1 - ((stp (rng b) % n.toNat : Nat) : Int) else ((stp (rng b) % n.toNat : Nat) : Int) := by
      unfold chV; rw [hd n h1 h2, if_pos rfl, if_neg h3, if_neg h4]
    have e2 : chV 1 b = 0 := by
      unfold chV; rw [hd 1 (by decide) (by decide), if_pos rfl, if_neg h3, if_neg h4, show (1 : Int).toNat = 1 from rfl, Nat.mod_one]
      split <;> rfl
    have g3 : ng b ≠ 18442240474082181120 := fun h => by
      rw [h] at r1; rw [← r1] at h5; exact absurd h5 (by decide)
    have g4 : ng b ≠ 9218868437227405312 := fun h => by
      rw [h] at r1; rw [← r1] at h5; exact absurd h5 (by decide)
    have e3 : chV n (ng b) = if sgn b then ((stp (rng b) % n.toNat : Nat) : Int) else n - 1 - ((stp (rng b) % n.toNat : Nat) : Int) := by
      unfold chV; rw [hd2, if_pos rfl, if_neg g3, if_neg g4, r1, r2]
      cases sgn b <;> rfl
    refine ⟨?_, ?_, ?_, hd 1 (by decide) (by decide), e2, fun h => ?_⟩
    · rw [e1]; split <;> omega
    · rw [e1]; split <;> omega
    · rw [e1, e3]; split <;> omega
    · unfold olB at h
      rw [decide_eq_false h3, Bool.false_or, decide_eq_true_eq] at h
      rw [e1, show rng b = b by unfold rng; rw [if_neg (by omega)], stp_small h, show sgn b = false by unfold sgn; simp; omega, Nat.zero_mod]
      rfl

set_option maxRecDepth 100000 in
theorem one_law (n : Int) (b : Nat) (hb : b < 18446744073709551616) (hn63 : n ≤ 9223372036854775807) (hn0 : -9223372036854775808 ≤ n) (W : World) :
    Calls Try.prog 6 #[.int .i64 n, .float .f64 b] W fun e w' => e = .returned (.bool true) ∧ Below W.heap.size W w' := by
  have H1 := of_any n b hb
  have H2 := of_any n (ng b) (ng_lt hb)
  have H3 := of_any 1 b hb
  have H4 := none_any b hb
  have H5 := oldest_any b hb
  have HB : BW W W := Below.refl _ _
  have hng := run_neg b hb
  by_cases hok : (1 ≤ n ∧ n ≤ 1048576) ∧ nanB b = false
  · obtain ⟨⟨h1, h2⟩, h3⟩ := hok
    obtain ⟨f1, f2, f3, f4, f5, f6, f7, f8⟩ := one_facts hb h1 h2 h3
    rw [f1] at H1
    rw [f2, f5] at H2
    rw [f6, f7] at H3
    rw [h3] at H4
    clear f1 f2 f5 f6 f7 h3
    have hol : olB b = false ∨ (olB b = true ∧ chV n b = 0) := by
      cases ho : olB b
      · exact .inl rfl
      · exact .inr ⟨rfl, f8 ho⟩
    clear f8
    generalize chV n b = k at *
    generalize ng b = nb at *
    rcases hol with ho | ⟨ho, hk⟩
    · rw [ho] at H5
      have HO := Lib.hid ho
      clear ho
      go_enter Try.func6, Try.ntmps6
      go_wp2_with (first
        | (go_at_call 8; refine (alive_bw W _ (by assumption)).mono ?_; rintro e w' ⟨rfl, HB⟩)
        | (go_at_call 9; ((with_reducible refine (H1 _).mono ?_); rintro e w' ⟨rfl, rfl⟩))
        | (go_at_call 9; ((with_reducible refine (H2 _).mono ?_); rintro e w' ⟨rfl, rfl⟩))
        | (go_at_call 9; ((with_reducible refine (H3 _).mono ?_); rintro e w' ⟨rfl, rfl⟩))
        | (go_at_call 11; refine (H5 _).mono ?_; rintro e w' ⟨rfl, rfl⟩)
        | (go_at_call 18; refine (H4 _).mono ?_; rintro e w' ⟨rfl, rfl⟩))
      go_ret
      exact ⟨rfl, by assumption⟩
    · rw [ho] at H5
      have HO := Lib.hid ho
      clear ho
      subst hk
      go_enter Try.func6, Try.ntmps6
      go_wp2_with (first
        | (go_at_call 8; refine (alive_bw W _ (by assumption)).mono ?_; rintro e w' ⟨rfl, HB⟩)
        | (go_at_call 9; ((with_reducible refine (H1 _).mono ?_); rintro e w' ⟨rfl, rfl⟩))
        | (go_at_call 9; ((with_reducible refine (H2 _).mono ?_); rintro e w' ⟨rfl, rfl⟩))
        | (go_at_call 9; ((with_reducible refine (H3 _).mono ?_); rintro e w' ⟨rfl, rfl⟩))
        | (go_at_call 11; refine (H5 _).mono ?_; rintro e w' ⟨rfl, rfl⟩)
        | (go_at_call 18; refine (H4 _).mono ?_; rintro e w' ⟨rfl, rfl⟩))
      go_ret
      exact ⟨rfl, by assumption⟩
  · have hno : chB n b = false ∧ chB n (ng b) = false := by
      unfold chB
      rw [(ng_rng hb).2.2]
      by_cases g : 1 ≤ n ∧ n ≤ 1048576
      · have : nanB b = true := by
          cases hb2 : nanB b
          · exact absurd ⟨g, hb2⟩ hok
          · rfl
        rw [this]; simp
      · rw [decide_eq_false g]; simp
    rw [hno.1, chV_no hno.1] at H1
    rw [hno.2, chV_no hno.2] at H2
    have hcase : n < 1 ∨ (¬ n < 1 ∧ 1048576 < n) ∨ (¬ n < 1 ∧ ¬ 1048576 < n ∧ nanB b = true) := by
      by_cases g1 : n < 1
      · exact .inl g1
      · by_cases g2 : 1048576 < n
        · exact .inr (.inl ⟨g1, g2⟩)
        · refine .inr (.inr ⟨g1, g2, ?_⟩)
          cases hb2 : nanB b
          · exact absurd ⟨⟨by omega, by omega⟩, hb2⟩ hok
          · rfl
    clear hok hno
    generalize chB 1 b = t3 at *
    generalize chV 1 b = k3 at *
    generalize olB b = t5 at *
    generalize ng b = nb at *
    rcases hcase with g1 | ⟨g1, g2⟩ | ⟨g1, g2, g3⟩
    · generalize nanB b = t4 at *
      go_enter Try.func6, Try.ntmps6
      go_wp2_with (first
        | (go_at_call 8; refine (alive_bw W _ (by assumption)).mono ?_; rintro e w' ⟨rfl, HB⟩)
        | (go_at_call 9; ((with_reducible refine (H1 _).mono ?_); rintro e w' ⟨rfl, rfl⟩))
        | (go_at_call 9; ((with_reducible refine (H2 _).mono ?_); rintro e w' ⟨rfl, rfl⟩))
        | (go_at_call 9; ((with_reducible refine (H3 _).mono ?_); rintro e w' ⟨rfl, rfl⟩))
        | (go_at_call 11; refine (H5 _).mono ?_; rintro e w' ⟨rfl, rfl⟩)
        | (go_at_call 18; refine (H4 _).mono ?_; rintro e w' ⟨rfl, rfl⟩))
      go_ret
      exact ⟨rfl, by assumption⟩
    · generalize nanB b = t4 at *
      go_enter Try.func6, Try.ntmps6
      go_wp2_with (first
        | (go_at_call 8; refine (alive_bw W _ (by assumption)).mono ?_; rintro e w' ⟨rfl, HB⟩)
        | (go_at_call 9; ((with_reducible refine (H1 _).mono ?_); rintro e w' ⟨rfl, rfl⟩))
        | (go_at_call 9; ((with_reducible refine (H2 _).mono ?_); rintro e w' ⟨rfl, rfl⟩))
        | (go_at_call 9; ((with_reducible refine (H3 _).mono ?_); rintro e w' ⟨rfl, rfl⟩))
        | (go_at_call 11; refine (H5 _).mono ?_; rintro e w' ⟨rfl, rfl⟩)
        | (go_at_call 18; refine (H4 _).mono ?_; rintro e w' ⟨rfl, rfl⟩))
      go_ret
      exact ⟨rfl, by assumption⟩
    · rw [g3] at H4
      have HO := Lib.hid g3
      clear g3
      go_enter Try.func6, Try.ntmps6
      go_wp2_with (first
        | (go_at_call 8; refine (alive_bw W _ (by assumption)).mono ?_; rintro e w' ⟨rfl, HB⟩)
        | (go_at_call 9; ((with_reducible refine (H1 _).mono ?_); rintro e w' ⟨rfl, rfl⟩))
        | (go_at_call 9; ((with_reducible refine (H2 _).mono ?_); rintro e w' ⟨rfl, rfl⟩))
        | (go_at_call 9; ((with_reducible refine (H3 _).mono ?_); rintro e w' ⟨rfl, rfl⟩))
        | (go_at_call 11; refine (H5 _).mono ?_; rintro e w' ⟨rfl, rfl⟩)
        | (go_at_call 18; refine (H4 _).mono ?_; rintro e w' ⟨rfl, rfl⟩))
      go_ret
      exact ⟨rfl, by assumption⟩
end Go.Proofs.Ytdhooabamoehiaa
