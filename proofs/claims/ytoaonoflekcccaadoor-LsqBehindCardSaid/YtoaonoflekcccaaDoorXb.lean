/- Package lsq: what kind a slot is, its room, whether a fence keeps reads, what is pending. -/
import Derived.Test.YtoaonoflekcccaaDoorXa
import Derived.Test.YtoaonoflekcccaaDoorMm
import Derived.Test.YtoaonoflekcccaaDoorHz
set_option maxRecDepth 100000
set_option linter.unusedVariables false
namespace Go.Proofs.YtoaonoflekcccaaDoor
open Go.RowKit

def sltV (x : Slt) : Value := .agg (sltC x)
theorem isLoad_c (x : Slt) (hx : Wslt x) (w : World) (hT : TabL w) : Calls Tryd.prog 11 #[sltV x] w fun e w' => e = .returned (.bool (ldS x)) ∧ BW w w' := by
  have HB := Lib.hid (BW.new (Below.refl _ w) (.cells (sltC x) 29))
  have KS := sort_c x.op hx.op _ (hT.below HB.out)
  clear hx hT
  obtain ⟨op, pred, succ, aq, id, known, addr, ready, data, bound, t⟩ := x
  unfold sltV ldS
  unfold sltC at HB KS ⊢
  simp only at HB KS ⊢
  generalize srt op = k at *
  go_enter Tryd.func11, Tryd.ntmps11
  go_wp2_with (first | (go_at_call 19; refine KS.mono ?_; rintro e w2 ⟨rfl, rfl⟩))
  go_ret
  exact ⟨ret_bool (by by_cases h : k = 4 <;> simp [h]), HB.out⟩
theorem isStore_c (x : Slt) (hx : Wslt x) (w : World) (hT : TabL w) : Calls Tryd.prog 24 #[sltV x] w fun e w' => e = .returned (.bool (stS x)) ∧ BW w w' := by
  have HB := Lib.hid (BW.new (Below.refl _ w) (.cells (sltC x) 29))
  have KS := sort_c x.op hx.op _ (hT.below HB.out)
  clear hx hT
  obtain ⟨op, pred, succ, aq, id, known, addr, ready, data, bound, t⟩ := x
  unfold sltV stS
  unfold sltC at HB KS ⊢
  simp only at HB KS ⊢
  generalize srt op = k at *
  go_enter Tryd.func24, Tryd.ntmps24
  go_wp2_with (first | (go_at_call 19; refine KS.mono ?_; rintro e w2 ⟨rfl, rfl⟩))
  go_ret
  exact ⟨ret_bool (by by_cases h : k = 5 <;> simp [h]), HB.out⟩
theorem srt_most (op : Int) : srt op ≤ 12 := by have := srt_spec op; omega
theorem isAtomic_c (x : Slt) (hx : Wslt x) (w : World) (hT : TabL w) : Calls Tryd.prog 14 #[sltV x] w fun e w' => e = .returned (.bool (atS x)) ∧ BW w w' := by
  have HB := Lib.hid (BW.new (Below.refl _ w) (.cells (sltC x) 29))
  have KS := sort_c x.op hx.op _ (hT.below HB.out)
  have hm := srt_most x.op
  clear hx hT
  obtain ⟨op, pred, succ, aq, id, known, addr, ready, data, bound, t⟩ := x
  unfold sltV atS
  unfold sltC at HB KS ⊢
  simp only at HB KS hm ⊢
  generalize srt op = k at *
  have hc : k = 10 ∨ k = 11 ∨ k = 12 ∨ ((k == 10) = false ∧ (k == 11) = false ∧ (k == 12) = false ∧ decide (10 ≤ k) = false) := by
    by_cases h : 10 ≤ k
    · omega
    · exact .inr (.inr (.inr ⟨by simp; omega, by simp; omega, by simp; omega, by simp; omega⟩))
  rcases hc with rfl | rfl | rfl | ⟨h1, h2, h3, h4⟩
  case inr.inr.inr =>
    rw [h4]
    clear h4 hm
    go_enter Tryd.func14, Tryd.ntmps14
    go_wp2_with (first | (go_at_call 19; refine KS.mono ?_; rintro e w2 ⟨rfl, rfl⟩))
    go_ret
    exact ⟨rfl, HB.out⟩
  all_goals
    clear hm
    go_enter Tryd.func14, Tryd.ntmps14
    go_wp2_with (first | (go_at_call 19; refine KS.mono ?_; rintro e w2 ⟨rfl, rfl⟩))
    go_ret
    exact ⟨rfl, HB.out⟩
theorem room_c (x : Slt) (hx : Wslt x) (w : World) (hT : TabL w) : Calls Tryd.prog 22 #[sltV x] w fun e w' => e = .returned (.int .i64 (roomS x)) ∧ BW w w' := by
  have HB := Lib.hid (BW.new (Below.refl _ w) (.cells (sltC x) 29))
  have KS := size_c x.op hx.op _ (hT.below HB.out)
  clear hx hT
  obtain ⟨op, pred, succ, aq, id, known, addr, ready, data, bound, t⟩ := x
  unfold sltV roomS
  unfold sltC at HB KS ⊢
  simp only at HB KS ⊢
  generalize siz op = k at *
  cases known with
  | false =>
    rw [if_neg (by simp)]
    clear KS
    go_enter Tryd.func22, Tryd.ntmps22
    go_wp2
    go_ret
    exact ⟨rfl, HB.out⟩
  | true =>
    by_cases h1 : addr < 0
    · rw [if_neg (by omega)]
      clear KS
      go_enter Tryd.func22, Tryd.ntmps22
      go_wp2
      go_ret
      exact ⟨rfl, HB.out⟩
    · by_cases h2 : 1099511627776 < addr
      · rw [if_neg (by omega)]
        clear KS
        go_enter Tryd.func22, Tryd.ntmps22
        go_wp2
        go_ret
        exact ⟨rfl, HB.out⟩
      · rw [if_pos ⟨rfl, by omega, by omega⟩]
        go_enter Tryd.func22, Tryd.ntmps22
        go_wp2_with (first | (go_at_call 29; refine KS.mono ?_; rintro e w2 ⟨rfl, rfl⟩))
        go_ret
        exact ⟨rfl, HB.out⟩
theorem isPlace_c (A : Option Addr) (n cap : Nat) (i : Int) (w : World) : Calls Tryd.prog 10 #[.slice A n cap, .int .i64 i] w fun e w' => e = .returned (.bool (decide (0 ≤ i ∧ i < n))) ∧ w = w' := by
  by_cases h0 : 0 ≤ i
  · by_cases h1 : i < n
    · rw [decide_eq_true ⟨h0, h1⟩]
      go_enter Tryd.func10, Tryd.ntmps10
      go_wp2
      go_ret
      exact ⟨rfl, rfl⟩
    · rw [decide_eq_false (fun a => h1 a.2)]
      go_enter Tryd.func10, Tryd.ntmps10
      go_wp2
      go_ret
      exact ⟨rfl, rfl⟩
  · rw [decide_eq_false (fun a => h0 a.1)]
    go_enter Tryd.func10, Tryd.ntmps10
    go_wp2
    go_ret
    exact ⟨rfl, rfl⟩
theorem keeps_c (x : Slt) (w : World) : Calls Tryd.prog 27 #[sltV x] w fun e w' => e = .returned (.bool (keepS x)) ∧ BW w w' := by
  have HB := Lib.hid (BW.new (Below.refl _ w) (.cells (sltC x) 29))
  obtain ⟨op, pred, succ, aq, id, known, addr, ready, data, bound, t⟩ := x
  unfold sltV keepS suR
  unfold sltC at HB ⊢
  simp only at HB ⊢
  by_cases h1 : op = 51
  · subst h1
    go_enter Tryd.func27, Tryd.ntmps27
    go_wp2
    go_ret
    exact ⟨rfl, HB.out⟩
  · by_cases h2 : op = 50
    · subst h2
      go_enter Tryd.func27, Tryd.ntmps27
      go_wp2
      go_ret
      exact ⟨rfl, HB.out⟩
    · have e1 : (op == 51) = false := by simpa using h1
      have e2 : (op == 50) = false := by simpa using h2
      rw [decide_eq_false h1, decide_eq_false h2]
      clear h1 h2
      go_enter Tryd.func27, Tryd.ntmps27
      go_wp2
      go_ret
      exact ⟨rfl, HB.out⟩
end Go.Proofs.YtoaonoflekcccaaDoor
