/- The program's small functions of package ops: what they answer, over the two tables that the code lays. None of them writes or makes memory. -/
import Derived.Test.YtbnacdhhacafkaaDoorRows
import Derived.Test.YtbnacdhhacafkaaDoorLd
import Derived.Test.YtbnacdhhacafkaaDoorIx
import Derived.Test.YtbnacdhhacafkaaDoorCo
import Derived.WalkKit
import Derived.WalkLawsBesides
import Derived.WalkSmall
import Derived.WalkSpells
import Derived.Lib.Hide
import Derived.Below
import Derived.LoopTactic
import Derived.Laws.Rows
namespace Go.Proofs.YtbnacdhhacafkaaDoor
open Go.RowKit

def lsL : List Int := [0, 2, 4, 10, 17, 21, 34, 49, 51, 53, 55, 57, 75]
def lsV : Array Value := (lsL.map (Value.int .i64)).toArray
def n0L : List (List UInt8) := [] :: nmL
def n0V : Array Value := (n0L.map tx).toArray
/-- The two tables, as the code lays them. -/
def TabL (w : World) : Prop := ∃ t fr, w.heap[1]? = some (.cells lsV t fr)
theorem TabL.below {W w : World} (h : TabL W) (hb : Below W.heap.size W w) : TabL w := by
  obtain ⟨t, fr, h1⟩ := h
  have z1 := (Array.getElem?_eq_some_iff.1 h1).1
  exact ⟨t, fr, by rw [hb.block _ z1]; exact h1⟩
theorem lsV_at {k : Nat} (h : k < 13) (w : World) : (Instr.index 54 (.agg lsV) (.int .i64 k)).run Tryd.prog w = .ok (.int .i64 (lsL.getD k 0)) w :=
  index_row Tryd.underlying54 Tryd.underlying3 rfl (by kernel_rfl) h (by
    unfold lsV
    rw [List.getElem?_toArray, List.getElem?_map, List.getD_eq_getElem?_getD, List.getElem?_eq_getElem (by simpa [lsL] using h)]
    rfl) w
theorem ls_range {k : Nat} (h : k < 13) : 0 ≤ lsL.getD k 0 ∧ lsL.getD k 0 ≤ 75 := by
  have h13 : k = 0 ∨ k = 1 ∨ k = 2 ∨ k = 3 ∨ k = 4 ∨ k = 5 ∨ k = 6 ∨ k = 7 ∨ k = 8 ∨ k = 9 ∨ k = 10 ∨ k = 11 ∨ k = 12 := by omega
  rcases h13 with rfl | rfl | rfl | rfl | rfl | rfl | rfl | rfl | rfl | rfl | rfl | rfl | rfl <;> decide
theorem ls_sort {k : Nat} (h : k < 13) {op : Int} (h1 : k = 0 ∨ lsL.getD (k - 1) 0 < op) (h2 : op ≤ lsL.getD k 0) : srt op = k := by
  have hs := srt_spec op
  have h13 : k = 0 ∨ k = 1 ∨ k = 2 ∨ k = 3 ∨ k = 4 ∨ k = 5 ∨ k = 6 ∨ k = 7 ∨ k = 8 ∨ k = 9 ∨ k = 10 ∨ k = 11 ∨ k = 12 := by omega
  rcases h13 with rfl | rfl | rfl | rfl | rfl | rfl | rfl | rfl | rfl | rfl | rfl | rfl | rfl <;> simp [lsL] at h1 h2 <;> omega
theorem ls_end {op : Int} (h : lsL.getD 12 0 < op) : srt op = 0 := by
  have hs := srt_spec op
  simp [lsL] at h
  omega

set_option maxRecDepth 100000 in
theorem sort_c (op : Int) (_ : I64 op) (w : World) (hT : TabL w) :
    Calls Tryd.prog 20 #[.int .i64 op] w fun e w' => e = .returned (.int .i64 (srt op)) ∧ w = w' := by
  obtain ⟨t, fr, hg⟩ := hT
  have HG := Lib.hid hg
  clear hg
  go_enter Tryd.func20, Tryd.ntmps20
  go_wp2_with (with_reducible refine wpList_load_row (o := ⟨some 5, _, _, _, _, _⟩) rfl 54 (.global 1) rfl 1 rfl t lsV fr _ HG.out Tryd.underlying54 rfl (by kernel_rfl) ?_)
  go_loop [6] (fun v => ∃ k : Nat, v = .int .i64 k ∧ k ≤ 13 ∧ Hid (k = 0 ∨ lsL.getD (k - 1) 0 < op)) (fun v => (13 - intOf v).toNat)
  case atStart => exact ⟨0, rfl, by omega, (show _ ∨ _ from .inl rfl)⟩
  case round =>
    obtain ⟨k, rfl, hk, HK⟩ := hrel
    by_cases hlt : k < 13
    · have hltI : (k : Int) < 13 := by omega
      have ix := lsV_at hlt
      have HS := Lib.hid (fun a b => ls_sort hlt (op := op) a b)
      have HR := Lib.hid (ls_range hlt)
      have HX : Hid (∀ z, lsL.getD k 0 = z → lsL.getD (k + 1 - 1) 0 = z) := fun z h => by rw [Nat.add_sub_cancel]; exact h
      generalize lsL.getD k 0 = z at *
      by_cases hz : op ≤ z
      · have HV := Lib.hid (HS.out HK.out hz)
        go_wp2
        go_ret
        exact ⟨ret_int HV.out.symm, rfl⟩
      · go_wp2
        go_round
        case rel => exact ⟨k + 1, by go_num, by omega, (show _ ∨ _ from .inr (by rw [HX.out _ rfl]; omega))⟩
        case measure => simp [intOf]; omega
    · obtain rfl : k = 13 := by omega
      have HV : Hid (srt op = 0) := ls_end (by have := HK.out; simpa using this)
      go_wp2
      go_ret
      exact ⟨ret_int HV.out.symm, rfl⟩
end Go.Proofs.YtbnacdhhacafkaaDoor
