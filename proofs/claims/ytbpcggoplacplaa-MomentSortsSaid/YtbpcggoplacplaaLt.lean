/- The contracts of SameInts and Last, and the law on sorting and the last moment, walked. -/
import Derived.Test.YtbpcggoplacplaaRows
import Derived.Test.YtbpcggoplacplaaMem
import Derived.Test.YtbpcggoplacplaaOpen
import Derived.Test.YtbpcggoplacplaaLs
import Derived.Test.YtbpcggoplacplaaSt
import Derived.Test.YtbpcggoplacplaaRs
import Derived.Test.YtbpcggoplacplaaLaw
import Derived.Test.YtbpcggoplacplaaCm
import Derived.Test.YtbpcggoplacplaaSo
import Derived.Test.YtbpcggoplacplaaRt
import Derived.WalkKit
import Derived.WalkLawsBesides
import Derived.WalkSmall
import Derived.WalkSpells
import Derived.Deep.LoopGhost
import Derived.Deep.QuietTactic
import Derived.BigQuiet
import Derived.Lib.Hide
import Derived.Outline
namespace Go.Proofs.Ytbpcggoplacplaa
open Go.RowKit

theorem below_drewN' {B : Nat} {a w : World} (h : Below B a w) (n : Nat) : Below B a (w.drewN n) := ⟨h.os, h.tape, h.output, h.size, h.block⟩

theorem sameInts_any (A A' : Option Addr) (cap cap' : Nat) (l l' : List Int) (w : World) (hl : l.length ≤ 9223372036854775807)
    (hr : Rd w w.heap.size A (cellsI l)) (hr' : Rd w w.heap.size A' (cellsI l')) :
    Calls Try.prog 21 #[.slice A l.length cap, .slice A' l'.length cap'] w fun e w' => e = .returned (.bool (decide (l = l'))) ∧ Below w.heap.size w w' := by
  by_cases hne : l.length = l'.length
  · have hb : ((l.length : Int) != l'.length) = false := by simp [hne]
    have HN := Lib.hid hne; clear hne
    go_enter Try.func21, Try.ntmps21
    go_wp2
    go_loopw [5] (fun i wx => Below w.heap.size w wx ∧ ∃ k : Nat, k ≤ l.length ∧ i = .int .i64 k ∧ l.take k = l'.take k) (fun i _ => l.length - (intOf i).toNat)
    case atStart => exact ⟨Below.refl _ _, 0, by omega, rfl, by simp⟩
    case round =>
      obtain ⟨hbl, k, hk, rfl, htk⟩ := hrel
      have HT := Lib.hid htk; clear htk
      by_cases hlt : k < l.length
      · obtain ⟨b, off, rfl, _, hc⟩ := (hr.below hbl).at (i := k) (by unfold cellsI; rw [List.length_map]; exact hlt)
        obtain ⟨b', off', rfl, _, hc'⟩ := (hr'.below hbl).at (i := k) (by unfold cellsI; rw [List.length_map, ← HN.out]; exact hlt)
        simp only [cellsI, List.getElem_map] at hc hc'
        have hltI : (k : Int) < l.length := by omega
        have hltJ : (k : Int) < l'.length := by have := HN.out; omega
        by_cases he : l[k] = l'[k]'(by have := HN.out; omega)
        · have ht : (l[k] != l'[k]'(by have := HN.out; omega)) = false := by simp [he]
          have HE := Lib.hid he; clear he
          go_wp2
          go_quiet (fail)
          go_wp2
          go_roundw
          case rel =>
            refine ⟨below_drewN' hbl _, k + 1, by omega, by go_num, ?_⟩
            rw [List.take_succ_eq_append_getElem hlt, List.take_succ_eq_append_getElem (by have := HN.out; omega), HT.out, HE.out]
          case measure => simp [intOf]; omega
        · have ht : (l[k] != l'[k]'(by have := HN.out; omega)) = true := by simp [he]
          have HE := Lib.hid he; clear he
          go_wp2
          go_quiet (fail)
          go_wp2
          go_ret
          refine ⟨ret_bool (Eq.symm (decide_eq_false fun e => HE.out ?_)), below_drewN' hbl _⟩
          simp only [e]
      · go_wp2
        go_ret
        refine ⟨ret_bool (Eq.symm (decide_eq_true ?_)), hbl⟩
        have ht := HT.out
        rwa [List.take_of_length_le (by omega), List.take_of_length_le (by have := HN.out; omega)] at ht
  · have hb : ((l.length : Int) != l'.length) = true := by simp; omega
    have HN := Lib.hid hne; clear hne
    go_enter Try.func21, Try.ntmps21
    go_wp2
    go_ret
    exact ⟨ret_bool (Eq.symm (decide_eq_false fun e => HN.out (by rw [e]))), Below.refl _ _⟩

theorem sameInts_at (A A' : Option Addr) (cap cap' : Nat) (l l' : List Int) (n : Nat) (w : World) (e1 : l.length = n) (e2 : l'.length = n) (hl : n ≤ 9223372036854775807)
    (hr : Rd w w.heap.size A (cellsI l)) (hr' : Rd w w.heap.size A' (cellsI l')) :
    Calls Try.prog 21 #[.slice A n cap, .slice A' n cap'] w fun e w' => e = .returned (.bool (decide (l = l'))) ∧ Below w.heap.size w w' := by
  have h := sameInts_any A A' cap cap' l l' w (by omega) hr hr'
  rw [e1, e2] at h
  exact h

/-! ### The last one -/
/-- The greatest place in the order, First's at least. -/
def mxL (l : List Nat) : Int := l.foldl (fun a b => max a (rk b)) 4503599627370495
/-- The last one, as the law and the program look for it. -/
def lstL (l : List Nat) : Nat := l.foldl (fun a b => if lessB a b then b else a) 18442240474082181120
theorem lst_fold (l : List Nat) (a : Nat) (m : Int) (h : rk a = m) : rk (l.foldl (fun a b => if lessB a b then b else a) a) = l.foldl (fun a b => max a (rk b)) m := by
  induction l generalizing a m with
  | nil => exact h
  | cons b r ih =>
    refine ih _ _ ?_
    unfold lessB
    by_cases c : rk a < rk b
    · simp only [c, decide_true, if_true]; omega
    · simp only [c, decide_false]; show rk a = _; omega
theorem rk_lst (l : List Nat) : rk (lstL l) = mxL l := lst_fold l _ _ (by decide)
theorem lstL_snoc (l : List Nat) (b : Nat) : lstL (l ++ [b]) = if lessB (lstL l) b then b else lstL l := by unfold lstL; rw [List.foldl_append]; rfl
theorem lstL_word {l : List Nat} (h : Words l) : lstL l < 18446744073709551616 := by
  have q : ∀ (r : List Nat) (a : Nat), a < 18446744073709551616 → Words r → r.foldl (fun a b => if lessB a b then b else a) a < 18446744073709551616 := by
    intro r
    induction r with
    | nil => intro a ha _; exact ha
    | cons b r ih =>
      intro a ha hw
      refine ih _ ?_ (fun x hx => hw x (List.mem_cons_of_mem _ hx))
      show (if lessB a b then b else a) < _
      split
      · exact hw b (List.mem_cons_self ..)
      · exact ha
  exact q l _ (by decide) h
theorem mx_nan {l : List Nat} (h : Words l) {k : Nat} (hk : k < l.length) (hn : nanB l[k] = true) : mxL l = 18446744073709551615 := by
  have hub : ∀ (r : List Nat) (m : Int), m ≤ 18446744073709551615 → Words r → r.foldl (fun a b => max a (rk b)) m ≤ 18446744073709551615 ∧ m ≤ r.foldl (fun a b => max a (rk b)) m := by
    intro r
    induction r with
    | nil => intro m hm _; exact ⟨hm, Int.le_refl _⟩
    | cons b r ih =>
      intro m hm hw
      have hb := rk_lt b (hw b (List.mem_cons_self ..))
      have q := ih (max m (rk b)) (by omega) (fun x hx => hw x (List.mem_cons_of_mem _ hx))
      exact ⟨q.1, by have := q.2; show m ≤ _; exact Int.le_trans (Int.le_max_left _ _) this⟩
  have hw1 : Words (l.take k) := fun x hx => h x (List.mem_of_mem_take hx)
  have hw2 : Words (l.drop (k + 1)) := fun x hx => h x (List.mem_of_mem_drop hx)
  have e : mxL l = (l.drop (k + 1)).foldl (fun a b => max a (rk b)) (max (mxL (l.take k)) (rk l[k])) := by
    conv => lhs; rw [← List.take_append_drop k l, List.drop_eq_getElem_cons hk]
    unfold mxL
    rw [List.foldl_append, List.foldl_cons]
  have h1 := (hub (l.take k) 4503599627370495 (by decide) hw1).1
  have h2 := nan_rk hn
  have h3 : max (mxL (l.take k)) (rk l[k]) = 18446744073709551615 := by unfold mxL; rw [h2]; omega
  have h4 := hub (l.drop (k + 1)) 18446744073709551615 (Int.le_refl _) hw2
  rw [e, h3]
  omega

set_option maxHeartbeats 800000 in
set_option maxRecDepth 100000 in
theorem last_any (A : Option Addr) (cap : Nat) (l : List Nat) (w : World) (hl : l.length ≤ 1000000) (hw : Words l) (hr : Rd w w.heap.size A (cellsF l)) :
    Calls Try.prog 23 #[.slice A l.length cap] w fun e w' => (∃ b, e = .returned (.float .f64 b) ∧ b < 18446744073709551616 ∧ rk b = mxL l) ∧ w = w' := by
  have HR := Lib.hid hr
  have HW := Lib.hid hw
  clear hr hw
  go_enter Try.func23, Try.ntmps23
  go_wp2
  go_step3
  go_wp2_with (first
    | (go_at_call 12; refine (first_any _).mono ?_; rintro e w' ⟨rfl, rfl⟩))
  go_step3
  go_wp2
  go_loopg [3, 9] l.length (fun gg v3 v9 wx => w = wx ∧ ∃ k : Nat, k + gg = l.length ∧ v9 = .int .i64 k ∧ v3 = .float .f64 (lstL (l.take k)))
  case atStart => exact ⟨rfl, 0, by omega, rfl, rfl⟩
  case round =>
    obtain ⟨rfl, k, hk, rfl, rfl⟩ := hrel
    have bl := lstL_word (l := l.take k) (fun x hx => HW.out x (List.mem_of_mem_take hx))
    by_cases hlt : k < l.length
    · obtain ⟨b, off, rfl, _, hc⟩ := HR.out.at (i := k) (by unfold cellsF; rw [List.length_map]; exact hlt)
      simp only [cellsF, List.getElem_map] at hc
      have bm := HW.out _ (List.getElem_mem hlt)
      have HS : Hid (lstL (l.take (k + 1)) = if lessB (lstL (l.take k)) l[k] then l[k] else lstL (l.take k)) := by
        show _ = _
        rw [List.take_succ_eq_append_getElem hlt, lstL_snoc]
      have HM : Hid (nanB l[k] = true → mxL l = 18446744073709551615) := fun h => mx_nan HW.out hlt h
      have hki : (k : Int) < (l.length : Int) := by omega
      generalize l[k] = m at *
      generalize lstL (l.take k) = a at *
      cases hn : nanB m
      · cases hl1 : lessB a m
        all_goals
          rw [hl1] at HS
          go_wp2_with (first
            | (go_at_call 24; refine (isnan_any _ bm _).mono ?_; rintro e w' ⟨rfl, rfl⟩)
            | (go_at_call 17; refine (less_any _ _ bl bm _).mono ?_; rintro e w' ⟨rfl, rfl⟩))
          go_roundg (l.length - (k + 1))
          case measure => omega
          case rel => exact ⟨rfl, k + 1, by omega, by go_num, by rw [HS.out]; rfl⟩
      · have HX := Lib.hid (HM.out hn)
        go_wp2_with (first
          | (go_at_call 24; refine (isnan_any _ bm _).mono ?_; rintro e w' ⟨rfl, rfl⟩)
          | (go_at_call 16; refine (never_any _).mono ?_; rintro e w' ⟨rfl, rfl⟩))
        try rw [Exit.noGoto_ret]
        go_ret
        exact ⟨⟨_, rfl, by decide, by rw [HX.out]; decide⟩, rfl⟩
    · go_wp2
      try rw [Exit.noGoto_ret]
      go_ret
      refine ⟨⟨_, rfl, bl, ?_⟩, rfl⟩
      rw [rk_lst, List.take_of_length_le (by omega)]

set_option maxHeartbeats 800000 in
set_option maxRecDepth 100000 in
theorem sorts_any (A : Option Addr) (cap : Nat) (l : List Nat) (w : World) (_ : l.length ≤ 9223372036854775807) (hw : Words l) (hr : Rd w w.heap.size A (cellsF l)) :
    Calls Try.prog 5 #[.slice A l.length cap] w fun e w' => e = .returned (.bool true) ∧ Below w.heap.size w w' := by
  by_cases hl : l.length ≤ 200
  · have HR := Lib.hid hr
    have HW := Lib.hid hw
    have hli : ¬ (200 : Int) < (l.length : Int) := by omega
    clear hr hw
    go_enter Try.func5, Try.ntmps5
    go_wp2_with (first
      | (go_at_call 8; refine (alive_any _).mono ?_; rintro e w' ⟨rfl, rfl⟩)
      | (go_at_call 20; refine (rsort_any A cap l _ (by omega) HW.out HR.out).mono ?_; rintro e w2 ⟨A2, c2, r2, rfl, hst2, hrd2, hb2⟩)
      | (go_at_call 12; refine (first_any _).mono ?_; rintro e w' ⟨rfl, rfl⟩))
    have HST2 := Lib.hid hst2
    have HRD2 := Lib.hid hrd2
    clear hst2 hrd2
    go_loopg [4, 5] l.length (fun gg v4 v5 wx => w2 = wx ∧ ∃ k : Nat, k + gg = l.length ∧ v5 = .int .i64 k ∧ v4 = .float .f64 (lstL (l.take k)))
    case atStart => exact ⟨rfl, 0, by omega, rfl, rfl⟩
    case round =>
      obtain ⟨rfl, k, hk, rfl, rfl⟩ := hrel
      have bl := lstL_word (l := l.take k) (fun x hx => HW.out x (List.mem_of_mem_take hx))
      by_cases hlt : k < l.length
      · obtain ⟨b, off, rfl, _, hc⟩ := (HR.out.below hb2).at (i := k) (by unfold cellsF; rw [List.length_map]; exact hlt)
        simp only [cellsF, List.getElem_map] at hc
        have bm := HW.out _ (List.getElem_mem hlt)
        have HS : Hid (lstL (l.take (k + 1)) = if lessB (lstL (l.take k)) l[k] then l[k] else lstL (l.take k)) := by
          show _ = _
          rw [List.take_succ_eq_append_getElem hlt, lstL_snoc]
        have hki : (k : Int) < (l.length : Int) := by omega
        generalize l[k] = m at *
        generalize lstL (l.take k) = a at *
        cases hl1 : lessB a m
        all_goals
          rw [hl1] at HS
          go_wp2_with (first
            | (go_at_call 18; refine (rless_any _ _ bl bm _).mono ?_; rintro e w' ⟨rfl, rfl⟩))
          go_roundg (l.length - (k + 1))
          case measure => omega
          case rel => exact ⟨rfl, k + 1, by omega, by go_num, by rw [HS.out]; rfl⟩
      · have hkl : k = l.length := by omega
        have hlst : rk (lstL (l.take k)) = mxL l := by rw [rk_lst, List.take_of_length_le (by omega)]
        clear hkl
        go_wp2_with (first
          | (go_at_call 8; refine (alive_any _).mono ?_; rintro e w' ⟨rfl, rfl⟩)
          | (go_at_call 22; refine (sort_any A cap l _ (by omega) HW.out ((HR.out.below hb2).mono hb2.size)).mono ?_; rintro e w3 ⟨A3, c3, r3, rfl, hst3, hrd3, hb3⟩))
        have hsame : decide (r3 = r2) = true := decide_eq_true (isStab_one hst3 HST2.out)
        have HS3 := Lib.hid (sameInts_at A3 A2 c3 c2 r3 r2 l.length w3 hst3.1 HST2.out.1 (by omega) hrd3 ((HRD2.out.below hb3).mono hb3.size))
        clear hst3 hrd3
        go_wp2_with (first
          | (go_at_call 21; refine HS3.out.mono ?_; rintro e w4 ⟨rfl, hb4⟩))
        have hb24 : Below w.heap.size w w4 := hb2.trans ((hb3.mono hb2.size).trans (hb4.mono (Nat.le_trans hb2.size hb3.size)))
        clear HS3 hb2 hb3 hb4
        go_wp2_with (first
          | (go_at_call 23; refine (last_any A cap l _ (by omega) HW.out ((HR.out.below hb24).mono hb24.size)).mono ?_; rintro e w5 ⟨⟨q, rfl, hq, hqr⟩, rfl⟩)
          | (go_at_call 14; refine (rank_any _ (by assumption) _).mono ?_; rintro e w' ⟨rfl, rfl⟩))
        go_ret
        exact ⟨by simp, hb24⟩
  · have hli : (200 : Int) < (l.length : Int) := by omega
    go_enter Try.func5, Try.ntmps5
    go_wp2_with (first
      | (go_at_call 8; refine (alive_any _).mono ?_; rintro e w' ⟨rfl, rfl⟩))
    go_ret
    exact ⟨rfl, Below.refl _ _⟩

/-- The statement's walk, as its frame asks it. -/
theorem momentSorts_law (A : Option Addr) (cap : Nat) (l : List Nat) (W : World) (hl : l.length ≤ 9223372036854775807) (hw : ∀ z ∈ l, (Lit.float .f64 z).wf = true) (hr : Rd W W.heap.size A (l.map (Value.float .f64))) :
    Calls Try.prog 5 #[.slice A l.length cap] W fun e W' => e = .returned (.bool true) ∧ Below W.heap.size W W' :=
  sorts_any A cap l W hl (fun z hz => wf_f64_out (hw z hz)) hr
end Go.Proofs.Ytbpcggoplacplaa
