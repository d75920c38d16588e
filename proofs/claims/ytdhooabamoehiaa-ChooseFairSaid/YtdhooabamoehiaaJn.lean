/- The law on joining fair picks, walked. -/
import Derived.Test.YtdhooabamoehiaaRows
import Derived.Test.YtdhooabamoehiaaFl2
import Derived.WalkKit
import Derived.WalkLawsBesides
import Derived.Deep.QuietTactic
import Derived.BigQuiet
import Derived.WalkSmall
import Derived.WalkSpells
import Derived.Lib.Hide
import Derived.Below
import Derived.Deep.Cut
import Derived.LoopTactic
import Derived.OwnWalk
import Derived.WideShapes
import Derived.Laws.AppendOwn
import Derived.Laws.AppendOwnNone
namespace Go.Proofs.Ytdhooabamoehiaa
open Go.RowKit

/-! ### Windows of two lists, one behind the other -/
theorem win_left {l m : List Pk} {w k q : Nat} (hq : l.length = q * w) (hk : k < q) : winB (l ++ m) w k = winB l w k := by
  unfold winB
  have h1 : (k + 1) * w ≤ q * w := Nat.mul_le_mul_right _ hk
  rw [Nat.succ_mul] at h1
  rw [List.drop_append_of_le_length (by omega), List.take_append_of_le_length (by rw [List.length_drop]; omega)]
theorem win_right {l m : List Pk} {w j q : Nat} (hq : l.length = q * w) : winB (l ++ m) w (q + j) = winB m w j := by
  unfold winB
  rw [Nat.add_mul, ← hq, List.drop_append, Nat.add_sub_cancel_left, List.drop_of_length_le (by omega), List.nil_append]
theorem fairN_iff {l : List Pk} {w n : Nat} : fairN l w n = true ↔ ∀ k, k < n → winB l w k = true := by
  unfold fairN
  rw [List.all_eq_true]
  exact ⟨fun h k hk => h k (List.mem_range.2 hk), fun h k hk => h k (List.mem_range.1 hk)⟩
theorem join_facts {l m : List Pk} {v : Int} (h1 : fairB l v = true) (h2 : fairB m v = true) (h3 : (l.length : Int) % v = 0) :
    1 ≤ v ∧ fairB (l ++ m) v = true ∧ winV (l ++ m).length v = winV l.length v + winV m.length v := by
  unfold fairB at h1 h2
  rw [Bool.and_eq_true, decide_eq_true_eq] at h1 h2
  obtain ⟨hv, h1⟩ := h1
  obtain ⟨_, h2⟩ := h2
  obtain ⟨w, rfl⟩ : ∃ w : Nat, v = (w : Int) := ⟨v.toNat, by omega⟩
  rw [Int.toNat_natCast] at h1 h2
  have h3' : l.length % w = 0 := by omega
  have hq : l.length = l.length / w * w := by have := Nat.div_add_mod l.length w; rw [h3', Nat.mul_comm] at this; omega
  generalize l.length / w = q at *
  have hd : (l ++ m).length / w = q + m.length / w := by
    rw [List.length_append, hq, Nat.add_comm, Nat.add_mul_div_right _ _ (by omega), Nat.add_comm]
  refine ⟨hv, ?_, ?_⟩
  · unfold fairB
    rw [decide_eq_true hv, Bool.true_and, Int.toNat_natCast, hd, fairN_iff]
    intro k hk
    rcases Nat.lt_or_ge k q with g | g
    · rw [win_left hq g]; exact fairN_iff.1 h1 k g
    · obtain ⟨j, rfl⟩ : ∃ j, k = q + j := ⟨k - q, by omega⟩
      rw [win_right hq]; exact fairN_iff.1 h2 j (by omega)
  · unfold winV
    rw [if_pos hv, if_pos hv, if_pos hv, Int.toNat_natCast, hd]
    have e : l.length / w = q := by rw [hq]; exact Nat.mul_div_cancel _ (by omega)
    rw [e]; omega

/-! ### Appending -/
theorem Rd.of_row {w : World} {base : Nat} {e : TypeId} {n c : Nat} {A : Option Addr} {xs : List Value} (h : w.ownsRow base e 3 (.slice A n c) n xs) : Rd w w.heap.size A xs ∧ n ≤ c ∧ c ≤ 9223372036854775807 := by
  rcases h with ⟨hl, ⟨h1, h0⟩ | ⟨g, cap, cur, hv, _, hh, h1, h2, _, ht⟩⟩
  · cases h1
    exact ⟨.inl (List.eq_nil_of_length_eq_zero (by omega)), by omega, by omega⟩
  · cases hv
    refine ⟨?_, h1, by unfold maxLen at h2; omega⟩
    have hlt : g < w.heap.size := by
      rcases Nat.lt_or_ge g w.heap.size with h | h
      · exact h
      · rw [Array.getElem?_eq_none h] at hh; cases hh
    refine .inr ⟨g, 0, rfl, hlt, fun i v hv => ?_⟩
    rw [cell_of_row w g (0 + i) cur e (0, 0) hh]
    rw [← ht, List.getElem?_take] at hv
    split at hv
    · simpa using hv
    · cases hv
theorem row_form {w : World} {base : Nat} {e : TypeId} {n : Nat} {v : Value} {xs : List Value} (h : w.ownsRow base e 3 v n xs) : ∃ A c, v = .slice A n c ∧ Rd w w.heap.size A xs ∧ n ≤ c ∧ c ≤ 9223372036854775807 := by
  have h' := h
  rcases h' with ⟨_, ⟨rfl, rfl⟩ | ⟨g, cap, _, rfl, _⟩⟩
  · exact ⟨none, 0, rfl, Rd.of_row h⟩
  · exact ⟨_, cap, rfl, Rd.of_row h⟩
theorem cellsP_one (l : List Pk) : ∀ u ∈ cellsP l, u.oneCell' = true := by
  intro u hu
  unfold cellsP at hu
  obtain ⟨p, _, hp⟩ := List.mem_flatMap.1 hu
  unfold pkCells at hp
  simp at hp
  rcases hp with rfl | rfl | rfl <;> rfl
theorem grown_self (w : World) (r : Option Nat) : w.grownBy w r := ⟨rfl, rfl, rfl, Nat.le_refl _, fun _ _ _ => rfl⟩

theorem append_picks {w : World} {ops : Array Oper} {rest : List Oper} {o : Oper} {a : Act} {Q : Exit → Act → World → Prop} (hgd : o.guard = none) (s x : Operand)
    (ho : o.op = .call { callee := .builtin .append, args := #[s, x], argTypes := #[31, 31] }) (base : Nat) (v : Value) (n : Nat) (xs : List Value) (hs : a.eval s = v)
    (hown : w.ownsRow base 28 3 v n xs) (A : Option Addr) (cap : Nat) (l : List Pk) (hx : a.eval x = .slice A l.length cap) (hz : A = none → cap = 0 ∧ l = []) (hr : Rd w w.heap.size A (cellsP l))
    (hn : n ≤ 2000) (hl : l.length ≤ 2000) (hbase : base ≤ w.heap.size)
    (h : ∀ v' w', w'.ownsRow base 28 3 v' (n + l.length) (xs ++ cellsP l) → w.grownBy w' v.ownBlock → wpList Try.prog ops Q rest (a.put o.dst v') w') : wpList Try.prog ops Q (o :: rest) a w := by
  obtain ⟨i0, hi, hz0, hz1, hz2⟩ := info_parts info_pick
  cases A with
  | none =>
    obtain ⟨rfl, rfl⟩ := hz rfl
    refine wpList_append_own_none hgd s x 31 ho base 28 i0 3 Try.underlying31 hi v n xs hs hown hx ?_
    refine h v w ?_ (grown_self _ _)
    have e : xs ++ cellsP [] = xs := by unfold cellsP; simp
    rw [e]; exact hown
  | some ad =>
    refine wpList_append_own w hgd s x 31 ho base 28 i0 _ 3 24 Try.underlying31 hi hz0 hz1 hz2 rfl (by decide) v n xs hs hown ad l.length cap (cellsP l) hx (cellsP_len l) ?_ (cellsP_one l)
      (by unfold maxLen; omega) (by omega) hbase (fun v' w' h1 h2 _ => h v' w' h1 h2)
    intro j u hj
    rcases hr with h0 | ⟨b, off, e, _, hc⟩
    · rw [h0] at hj; cases hj
    · cases e
      rw [Go.WideShapes.add_plain]
      exact hc j u hj

theorem join_law (A : Option Addr) (cap : Nat) (l : List Pk) (B : Option Addr) (bap : Nat) (m : List Pk) (v : Int) (hl : l.length ≤ 9223372036854775807) (hcap : l.length ≤ cap) (hcap2 : cap ≤ 9223372036854775807) (hA : A = none → cap = 0 ∧ l = [])
    (hm : m.length ≤ 9223372036854775807) (hbap : m.length ≤ bap) (hbap2 : bap ≤ 9223372036854775807) (hB : B = none → bap = 0 ∧ m = []) (hv : v ≤ 9223372036854775807) (hv0 : -9223372036854775808 ≤ v) (hw : Wd l) (hwm : Wd m) (W : World)
    (hr : Rd W W.heap.size A (cellsP l)) (hrm : Rd W W.heap.size B (cellsP m)) :
    Calls Try.prog 7 #[.slice A l.length cap, .slice B m.length bap, .int .i64 v] W fun e w' => e = .returned (.bool true) ∧ Below W.heap.size W w' := by
  have H1 := fun w => fair_bw (W := W) A cap l v w hl hcap hcap2 hv hw hr
  have H2 := fun w => fair_bw (W := W) B bap m v w hm hbap hbap2 hv hwm hrm
  have HBW : BW W W := Below.refl _ _
  by_cases h2 : 2000 < l.length
  · have h2' : (2000 : Int) < (l.length : Int) := by omega
    go_enter Try.func7, Try.ntmps7
    go_wp2_with (first
      | (go_at_call 8; refine (alive_bw W _ (by assumption)).mono ?_; rintro e w' ⟨rfl, HB⟩))
    go_ret
    exact ⟨rfl, by assumption⟩
  have h2' : ¬ (2000 : Int) < (l.length : Int) := by omega
  by_cases h3 : 2000 < m.length
  · have h3' : (2000 : Int) < (m.length : Int) := by omega
    go_enter Try.func7, Try.ntmps7
    go_wp2_with (first
      | (go_at_call 8; refine (alive_bw W _ (by assumption)).mono ?_; rintro e w' ⟨rfl, HB⟩))
    go_ret
    exact ⟨rfl, by assumption⟩
  have h3' : ¬ (2000 : Int) < (m.length : Int) := by omega
  cases hf1 : fairB l v
  · rw [hf1] at H1
    have HF := Lib.hid hf1
    clear hf1
    go_enter Try.func7, Try.ntmps7
    go_wp2_with (first
      | (go_at_call 8; refine (alive_bw W _ (by assumption)).mono ?_; rintro e w' ⟨rfl, HB⟩)
      | (go_at_call 15; ((with_reducible refine (H1 _ (by assumption)).mono ?_); rintro e w' ⟨rfl, HB⟩)))
    go_ret
    exact ⟨rfl, by assumption⟩
  cases hf2 : fairB m v
  · rw [hf1] at H1
    rw [hf2] at H2
    have HF := Lib.hid hf1
    have HF2 := Lib.hid hf2
    clear hf1 hf2
    go_enter Try.func7, Try.ntmps7
    go_wp2_with (first
      | (go_at_call 8; refine (alive_bw W _ (by assumption)).mono ?_; rintro e w' ⟨rfl, HB⟩)
      | (go_at_call 15; ((with_reducible refine (H1 _ (by assumption)).mono ?_); rintro e w' ⟨rfl, HB⟩))
      | (go_at_call 15; ((with_reducible refine (H2 _ (by assumption)).mono ?_); rintro e w' ⟨rfl, HB⟩)))
    go_ret
    exact ⟨rfl, by assumption⟩
  have hv1 : 1 ≤ v := by
    unfold fairB at hf1
    rw [Bool.and_eq_true, decide_eq_true_eq] at hf1
    exact hf1.1
  have hq0 : 0 ≤ (l.length : Int) % v := Int.emod_nonneg _ (by omega)
  have hq1 : (l.length : Int) % v < v := Int.emod_lt_of_pos _ (by omega)
  by_cases hmod : (l.length : Int) % v = 0
  · obtain ⟨_, hfj, hwj⟩ := join_facts hf1 hf2 hmod
    have hmb : ((l.length : Int) % v != 0) = false := by simp [hmod]
    have H5 := fun w => windows_any A cap l.length v w hl hv
    have H6 := fun w => windows_any B bap m.length v w hm hv
    have HX : Hid (0 ≤ winV l.length v ∧ winV l.length v ≤ l.length) := by
      unfold winV; rw [if_pos hv1]
      have := Nat.div_le_self l.length v.toNat
      generalize l.length / v.toNat = d at *
      constructor <;> omega
    have HY : Hid (0 ≤ winV m.length v ∧ winV m.length v ≤ m.length) := by
      unfold winV; rw [if_pos hv1]
      have := Nat.div_le_self m.length v.toNat
      generalize m.length / v.toNat = d at *
      constructor <;> omega
    rw [hf1] at H1
    rw [hf2] at H2
    have HF := Lib.hid hf1
    have HF2 := Lib.hid hf2
    have HFJ := Lib.hid hfj
    have HWJ := Lib.hid hwj
    have HM := Lib.hid hmod
    have HR := Lib.hid hr
    have HRM := Lib.hid hrm
    have HAn := Lib.hid hA
    have HBn := Lib.hid hB
    have HW1 := Lib.hid hw
    have HW2 := Lib.hid hwm
    clear hf1 hf2 hfj hwj hmod hr hrm hA hB hw hwm
    go_enter Try.func7, Try.ntmps7
    go_upto_region 6 with (first
      | (go_at_call 8; refine (alive_bw W _ (by assumption)).mono ?_; rintro e w' ⟨rfl, HB⟩)
      | (go_at_call 15; ((with_reducible refine (H1 _ (by assumption)).mono ?_); rintro e w' ⟨rfl, HB⟩))
      | (go_at_call 15; ((with_reducible refine (H2 _ (by assumption)).mono ?_); rintro e w' ⟨rfl, HB⟩)))
    clear H1 H2 hmb hq0 hq1
    go_wp2_with (at_builtin; refine append_picks rfl _ _ rfl W.heap.size _ 0 [] rfl (World.ownsRow_nil _ _ _ _) A cap l rfl HAn.out (BW.reads HB HR.out) (by omega) (by omega) (Below.size HB) ?_)
    intro v1 w1 hown1 hgrow1
    have hb1 : BW W w1 := Below.grown HB hgrow1 (Below.size HB) (fun _ h => by cases h)
    have HO1 := Lib.hid hown1
    clear hgrow1 hown1
    go_wp2_with (at_builtin; refine append_picks rfl _ _ rfl W.heap.size _ _ _ rfl HO1.out B bap m rfl HBn.out (BW.reads hb1 HRM.out) (by omega) (by omega) (Below.size hb1) ?_)
    intro v2 w2 hown2 hgrow2
    have hb2 : BW W w2 := Below.grown hb1 hgrow2 (Below.size hb1) (fun q hq => (HO1.out.lt q hq).1)
    obtain ⟨A2, c2, rfl, hr2, hc2, hc3⟩ := row_form hown2
    rw [← cellsP_append] at hr2
    have hlen : (l ++ m).length = l.length + m.length := List.length_append
    have hwj2 : Wd (l ++ m) := fun p hp => by
      rcases List.mem_append.1 hp with h | h
      · exact HW1.out p h
      · exact HW2.out p h
    have H8 := fair_any A2 c2 (l ++ m) v w2 (by omega) (by omega) hc3 hv hwj2 hr2
    have H9 := fun w => windows_any A2 c2 (l ++ m).length v w (by omega) hv
    rw [HFJ.out] at H8
    rw [HWJ.out] at H9
    rw [hlen] at H8 H9
    obtain ⟨x0, x1⟩ := HX.out
    obtain ⟨y0, y1⟩ := HY.out
    clear hgrow2 hown2 hr2 hlen hwj2 HX HY HWJ
    generalize winV l.length v = x at *
    generalize winV m.length v = y at *
    generalize l.length + m.length = N at *
    go_wp2_with (first
      | (go_at_call 15; refine H8.mono ?_; rintro e w3 ⟨rfl, hb3⟩)
      | (go_at_call 17; ((with_reducible refine (H9 _).mono ?_); rintro e w' ⟨rfl, rfl⟩))
      | (go_at_call 17; ((with_reducible refine (H5 _).mono ?_); rintro e w' ⟨rfl, rfl⟩))
      | (go_at_call 17; ((with_reducible refine (H6 _).mono ?_); rintro e w' ⟨rfl, rfl⟩)))
    go_ret
    exact ⟨rfl, BW.on hb2 hb3⟩
  · have hmb : ((l.length : Int) % v != 0) = true := by simp [hmod]
    rw [hf1] at H1
    rw [hf2] at H2
    have HF := Lib.hid hf1
    have HF2 := Lib.hid hf2
    have HM := Lib.hid hmod
    clear hf1 hf2 hmod
    go_enter Try.func7, Try.ntmps7
    go_wp2_with (first
      | (go_at_call 8; refine (alive_bw W _ (by assumption)).mono ?_; rintro e w' ⟨rfl, HB⟩)
      | (go_at_call 15; ((with_reducible refine (H1 _ (by assumption)).mono ?_); rintro e w' ⟨rfl, HB⟩))
      | (go_at_call 15; ((with_reducible refine (H2 _ (by assumption)).mono ?_); rintro e w' ⟨rfl, HB⟩)))
    go_ret
    exact ⟨rfl, by assumption⟩
end Go.Proofs.Ytdhooabamoehiaa
