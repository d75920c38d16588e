/- Package guess: New, Next, Train. -/
import Derived.Test.YtdcmpmmbmjaaiaaDoorGd
import Derived.LoopTactic
set_option maxRecDepth 100000
set_option linter.unusedVariables false
namespace Go.Proofs.YtdcmpmmbmjaaiaaDoor
open Go.RowKit

/-- A new guess, its first k counters begun. -/
def newK (k : Nat) : Gst := ⟨fun _ => 0, fun _ => false, fun j => if j < k then 1 else 0⟩
theorem newK_next (k : Nat) : (⟨(newK k).t, (newK k).b, updK (newK k).c k 1⟩ : Gst) = newK (k + 1) := by
  unfold newK updK
  simp only [Gst.mk.injEq, true_and]
  funext j
  by_cases h : j = k
  · simp [h]
  · by_cases h2 : j < k
    · simp [h, h2, show j < k + 1 by omega]
    · simp [h, h2, show ¬ j < k + 1 by omega]
theorem newK_end : gCells (newK 16) = gCells newG := rfl
theorem new_c (w : World) : Calls Tryd.prog 6 #[] w fun e w' => ∃ g, e = .returned (.pointer (some ⟨g, 0, none⟩)) ∧ GAt newG g w' ∧ w.heap.size ≤ g ∧ BW w w' := by
  have HG := Lib.hid (show GAt (newK 0) w.heap.size _ from Blk.new (gCells (newK 0)) 45 w)
  have HB := Lib.hid (BW.new (Below.refl _ w) (.cells (gCells (newK 0)) 45))
  unfold gCells newK at HB
  simp only [Nat.not_lt_zero, if_false] at HB
  have HG := Lib.hid HG.out
  unfold gCells at HG
  go_enter Tryd.func6, Tryd.ntmps6
  go_wp2
  obtain ⟨g, hg⟩ : ∃ g, w.heap.size = g := ⟨_, rfl⟩
  rw [hg] at HG ⊢
  have HGE := Lib.hid hg
  clear hg
  go_loopw [2, 5] (fun _ i wx => ∃ k : Nat, k ≤ 16 ∧ i = .int .i64 (k : Int) ∧ Hid (GAt (newK k) g wx ∧ BW w wx)) (fun _ i _ => 16 - (intOf i).toNat)
  case atStart => exact ⟨0, by omega, rfl, HG.out, HB.out⟩
  case round =>
    obtain ⟨k, hk, rfl, HH⟩ := hrel
    clear HG HB
    by_cases hlt : k < 16
    · have hltI : (k : Int) < 16 := by omega
      have hc := HH.out.1.cellC hlt
      have hf := Blk.free HH.out.1 (32 + k)
      have HN : Hid (GAt (newK (k + 1)) g (wr.setCell ⟨g, 32 + k, none⟩ (.int .i64 1)) ∧ BW w (wr.setCell ⟨g, 32 + k, none⟩ (.int .i64 1))) := by
        refine ⟨?_, ?_⟩
        · have := HH.out.1.set hlt 1
          rw [newK_next] at this
          exact this
        · exact Below.setCell HH.out.2 (by rw [HGE.out]; exact Nat.le_refl _) _
      go_wp2
      go_roundw
      case rel => exact ⟨k + 1, by omega, by first | rfl | go_num, HN⟩
      case measure => simp [intOf]; omega
    · obtain rfl : k = 16 := by omega
      have HV : Hid (GAt newG g wr) := by
        show Blk _ _ _ _
        rw [← newK_end]
        exact HH.out.1
      go_wp2
      go_ret
      exact ⟨g, rfl, HV.out, by rw [HGE.out]; exact Nat.le_refl _, HH.out.2⟩
theorem wrap_at (pc : Int) : IntKind.u64.wrap (pc + 4) = onG pc := rfl
end Go.Proofs.YtdcmpmmbmjaaiaaDoor
