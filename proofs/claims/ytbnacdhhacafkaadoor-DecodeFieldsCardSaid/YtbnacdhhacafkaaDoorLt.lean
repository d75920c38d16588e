/- The program's Size, Memory, Loads, Stores, Name, ByName, and what registers operations have, over its tables. -/
import Derived.Test.YtbnacdhhacafkaaDoorRows
import Derived.Test.YtbnacdhhacafkaaDoorLs
import Derived.Test.YtbnacdhhacafkaaDoorNa
import Derived.WalkKit
import Derived.WalkLawsBesides
import Derived.WalkSmall
import Derived.WalkSpells
import Derived.Lib.Hide
import Derived.Below
import Derived.LoopTactic
import Derived.Laws.Rows
namespace Go.Proofs.YtbnacdhhacafkaaDoor
open Go.RowKit

theorem thirteen {k : Int} (h : 0 ≤ k ∧ k ≤ 12) : k = 0 ∨ k = 1 ∨ k = 2 ∨ k = 3 ∨ k = 4 ∨ k = 5 ∨ k = 6 ∨ k = 7 ∨ k = 8 ∨ k = 9 ∨ k = 10 ∨ k = 11 ∨ k = 12 := by omega
theorem srt_range (op : Int) : 0 ≤ srt op ∧ srt op ≤ 12 := by have := srt_spec op; omega
theorem siz_rest : ∀ k : Fin 75, (srt ((k.val : Int) + 1) ≠ 12 → ((k.val : Int) + 1 ≠ 11 ∧ (k.val : Int) + 1 ≠ 15 ∧ (k.val : Int) + 1 ≠ 18 ∧ (k.val : Int) + 1 ≠ 12 ∧ (k.val : Int) + 1 ≠ 16 ∧ (k.val : Int) + 1 ≠ 19 ∧ (k.val : Int) + 1 ≠ 13 ∧ (k.val : Int) + 1 ≠ 17 ∧ (k.val : Int) + 1 ≠ 20 ∧ (k.val : Int) + 1 ≠ 54 ∧ (k.val : Int) + 1 ≠ 56 ∧ (k.val : Int) + 1 ≠ 14 ∧ (k.val : Int) + 1 ≠ 21 ∧ (k.val : Int) + 1 ≠ 55 ∧ (k.val : Int) + 1 ≠ 57) → szL.getD k.val 0 = 0) ∧ (srt ((k.val : Int) + 1) = 12 → szL.getD k.val 0 = if (k.val : Int) + 1 < 67 then 4 else 8) := by decide
theorem siz_none {op : Int} (h : srt op ≠ 12) (hn : op ≠ 11 ∧ op ≠ 15 ∧ op ≠ 18 ∧ op ≠ 12 ∧ op ≠ 16 ∧ op ≠ 19 ∧ op ≠ 13 ∧ op ≠ 17 ∧ op ≠ 20 ∧ op ≠ 54 ∧ op ≠ 56 ∧ op ≠ 14 ∧ op ≠ 21 ∧ op ≠ 55 ∧ op ≠ 57) : siz op = 0 := by
  unfold siz
  split
  · rename_i hr
    have := (siz_rest ⟨op.toNat - 1, by omega⟩).1
    simp only [show ((op.toNat - 1 : Nat) : Int) + 1 = op by omega] at this
    exact this h (by omega)
  · rfl
theorem siz_atom {op : Int} (h : srt op = 12) : siz op = if op < 67 then 4 else 8 := by
  have hs := srt_spec op
  have hr : 1 ≤ op ∧ op ≤ 75 := by omega
  unfold siz
  rw [if_pos hr]
  have := (siz_rest ⟨op.toNat - 1, by omega⟩).2
  simp only [show ((op.toNat - 1 : Nat) : Int) + 1 = op by omega] at this
  exact this h

theorem second_c (op : Int) (ho : I64 op) (w : World) (hT : TabL w) :
    Calls Tryd.prog 35 #[.int .i64 op] w fun e w' => e = .returned (.bool (secB op)) ∧ w = w' := by
  have HS := sort_c op ho w hT
  have HV : Hid (secB op = secB op) := rfl
  have hk := srt_range op
  have e0 : secB op = secB op := rfl
  unfold secB at e0 ⊢
  clear hT HV e0
  generalize srt op = k at *
  rcases thirteen hk with rfl | rfl | rfl | rfl | rfl | rfl | rfl | rfl | rfl | rfl | rfl | rfl | rfl
  all_goals
    go_enter Tryd.func35, Tryd.ntmps35
    go_wp2_with (go_at_call 20; refine HS.mono ?_; rintro e w' ⟨rfl, rfl⟩)
    go_ret
    exact ⟨ret_bool (by decide), rfl⟩

theorem writes_c (op : Int) (ho : I64 op) (w : World) (hT : TabL w) :
    Calls Tryd.prog 36 #[.int .i64 op] w fun e w' => e = .returned (.bool (wrB op)) ∧ w = w' := by
  have HS := sort_c op ho w hT
  have HV : Hid (wrB op = wrB op) := rfl
  have hk := srt_range op
  have e0 : wrB op = wrB op := rfl
  unfold wrB at e0 ⊢
  clear hT HV e0
  generalize srt op = k at *
  rcases thirteen hk with rfl | rfl | rfl | rfl | rfl | rfl | rfl | rfl | rfl | rfl | rfl | rfl | rfl
  all_goals
    go_enter Tryd.func36, Tryd.ntmps36
    go_wp2_with (go_at_call 20; refine HS.mono ?_; rintro e w' ⟨rfl, rfl⟩)
    go_ret
    exact ⟨ret_bool (by decide), rfl⟩

theorem first_c (op : Int) (ho : I64 op) (w : World) (hT : TabL w) :
    Calls Tryd.prog 34 #[.int .i64 op] w fun e w' => e = .returned (.bool (firB op)) ∧ w = w' := by
  have HS := sort_c op ho w hT
  have HV : Hid (firB op = firB op) := rfl
  have hk := srt_range op
  have e0 : firB op = firB op := rfl
  unfold firB at e0 ⊢
  clear hT HV e0
  generalize srt op = k at *
  rcases thirteen hk with rfl | rfl | rfl | rfl | rfl | rfl | rfl | rfl | rfl | rfl | rfl | rfl | rfl
  all_goals
    go_enter Tryd.func34, Tryd.ntmps34
    go_wp2_with (go_at_call 20; refine HS.mono ?_; rintro e w' ⟨rfl, rfl⟩)
    go_ret
    exact ⟨ret_bool (by first | rfl | (rw [Bool.eq_iff_iff]; simp)), rfl⟩

theorem register_c (r : Int) (w : World) :
    Calls Tryd.prog 33 #[.int .i64 r] w fun e w' => e = .returned (.int .i64 (regV r)) ∧ w = w' := by
  have hc : r < 0 ∨ 31 < r ∨ (0 ≤ r ∧ r ≤ 31) := by omega
  have HV : Hid ((0 ≤ r ∧ r ≤ 31 → regV r = r) ∧ (¬ (0 ≤ r ∧ r ≤ 31) → regV r = 0)) := ⟨fun h => if_pos h, fun h => if_neg h⟩
  rcases hc with h | h | ⟨h, h2⟩
  · go_enter Tryd.func33, Tryd.ntmps33
    go_wp2
    go_ret
    exact ⟨ret_int (HV.out.2 (by omega)).symm, rfl⟩
  · go_enter Tryd.func33, Tryd.ntmps33
    go_wp2
    all_goals go_ret
    all_goals exact ⟨ret_int (HV.out.2 (by omega)).symm, rfl⟩
  · go_enter Tryd.func33, Tryd.ntmps33
    go_wp2
    go_ret
    exact ⟨ret_int (HV.out.1 (by omega)).symm, rfl⟩

theorem n0_at {k : Nat} (h : k < 76) : n0V[k]? = some (tx (n0L.getD k [])) := by
  unfold n0V
  rw [List.getElem?_toArray, List.getElem?_map, List.getD_eq_getElem?_getD, List.getElem?_eq_getElem (by simpa [n0L, nmL_len] using h)]
  rfl
theorem nmO_n0 {k : Nat} (h : k < 76) : nmO (k : Int) = n0L.getD k [] := by
  cases k with
  | zero => rfl
  | succ k =>
    unfold nmO
    rw [if_pos (by omega)]
    rfl
/-- The operation of a name that is the one of number k, and of one that is none of the 76. -/
theorem bynm_n0 {k : Nat} (h : k < 76) {l : List UInt8} (e : n0L.getD k [] = l) : bynm l = (k : Int) := by
  subst e
  cases k with
  | zero => rfl
  | succ k => exact bynm_at (by omega)
theorem bynm_none {l : List UInt8} (h : ∀ k, k < 76 → n0L.getD k [] ≠ l) : bynm l = 0 := by
  unfold bynm
  rw [if_neg]
  intro hm
  obtain ⟨i, hi, he⟩ := List.getElem_of_mem hm
  refine h (i + 1) (by rw [nmL_len] at hi; omega) ?_
  show nmL.getD i [] = l
  rw [List.getD_eq_getElem?_getD, List.getElem?_eq_getElem hi]
  exact he
def NoneTo (q : ByteArray) (k : Nat) : Prop := ∀ i, i < k → n0L.getD i [] ≠ q.toList
end Go.Proofs.YtbnacdhhacafkaaDoor
