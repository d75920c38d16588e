/- The contracts of the document's Names, Name and Sort. -/
import Derived.Test.YtbnacdhhacafkaaDoorRows
import Derived.Test.YtbnacdhhacafkaaDoorTb
import Derived.Test.YtbnacdhhacafkaaDoorNum
import Derived.WalkKit
import Derived.WalkLawsBesides
import Derived.Deep.QuietTactic
import Derived.BigQuiet
import Derived.WalkSmall
import Derived.WalkSpells
import Derived.Lib.Hide
import Derived.Below
import Derived.Deep.Cut
import Derived.Great.Walk
import Derived.Deep.WholeRow
namespace Go.Proofs.YtbnacdhhacafkaaDoor
open Go.RowKit

theorem names_any (w : World) :
    Calls Tryd.prog 32 #[] w fun e w' => e = .returned (.slice (some ⟨w.heap.size, 0, none⟩) 75 75) ∧ w' = w.alloc (.cells nmV 9) := by
  go_enter Tryd.func32, Tryd.ntmps32
  go_upto_region 1 with (fail)
  refine wp_region_lit ?_
  refine Great.wpList_buildSliceTo rfl 52 9 75 _ rfl w.heap.size rfl (some 1) rfl Tryd.underlying52 nmV (by kernel_rfl) ?_
  go_wp2
  go_ret
  exact ⟨rfl, rfl⟩

theorem ret_str {a b : Value} (h : a = b) : Ending.returned a = .returned b := by rw [h]
theorem rname_any (op : Int) (h0 : -9223372036854775808 ≤ op) (h1 : op ≤ 9223372036854775807) (w : World) :
    Calls Tryd.prog 18 #[.int .i64 op] w fun e w' => e = .returned (tx (nmO op)) ∧ Below w.heap.size w w' := by
  have hw : ∃ w1, w.alloc (.cells nmV 9) = w1 := ⟨_, rfl⟩
  obtain ⟨w1, hw1⟩ := hw
  have HN := names_any w
  rw [hw1] at HN
  have hb : Below w.heap.size w w1 := by rw [← hw1]; exact (Below.refl _ _).alloc (Nat.le_refl _) _
  have HC : Hid (∀ i, i < 75 → w1.cell? ⟨w.heap.size, i, none⟩ = some (tx (nmL.getD i []))) := fun i hi => by
    rw [← hw1, cell_of_row _ _ i nmV _ (0, 0) (heap_alloc_last w _)]
    exact nmV_at hi
  have HB := Lib.hid hb
  clear hw1 hb
  by_cases hlo : op < 1
  · have HV : Hid (nmO op = []) := by show _ = _; unfold nmO; rw [if_neg (by omega)]
    go_enter Tryd.func18, Tryd.ntmps18
    go_wp2_with (first
      | (go_at_call 32; refine HN.mono ?_; rintro e w' ⟨rfl, rfl⟩))
    go_ret
    exact ⟨ret_str (by rw [HV.out]; rfl), HB.out⟩
  by_cases hhi : 75 < op
  · have HV : Hid (nmO op = []) := by show _ = _; unfold nmO; rw [if_neg (by omega)]
    go_enter Tryd.func18, Tryd.ntmps18
    go_wp2_with (first
      | (go_at_call 32; refine HN.mono ?_; rintro e w' ⟨rfl, rfl⟩))
    go_ret
    exact ⟨ret_str (by rw [HV.out]; rfl), HB.out⟩
  · have HV : Hid (nmO op = nmL.getD (op.toNat - 1) []) := by show _ = _; unfold nmO; rw [if_pos (by omega)]
    have hc := HC.out (op.toNat - 1) (by omega)
    have HX : Hid (nmL.getD (op.toNat - 1) [] = nmO op) := HV.out.symm
    clear HV
    generalize nmL.getD (op.toNat - 1) [] = r at *
    unfold tx at hc ⊢
    generalize hr : bs r = q at *
    have HR := Lib.hid hr
    clear hr
    go_enter Tryd.func18, Tryd.ntmps18
    go_wp2_with (first
      | (go_at_call 32; refine HN.mono ?_; rintro e w' ⟨rfl, rfl⟩))
    go_ret
    exact ⟨ret_str (by rw [← HX.out, HR.out]; rfl), HB.out⟩

set_option maxRecDepth 100000 in
theorem rsort_any (op : Int) (_ : -9223372036854775808 ≤ op) (h1 : op ≤ 9223372036854775807) (w : World) :
    Calls Tryd.prog 19 #[.int .i64 op] w fun e w' => e = .returned (.int .i64 (srt op)) ∧ Below w.heap.size w w' := by
  have HC : Hid (∀ i, i < 12 → (w.alloc (.cells mnV 3)).cell? ⟨w.heap.size, i, none⟩ = some (.int .i64 (mnL.getD i 0))) := fun i hi => by
    rw [cell_of_row _ _ i mnV _ (0, 0) (heap_alloc_last w _)]
    exact mnV_at hi
  have HB : Hid (Below w.heap.size w (w.alloc (.cells mnV 3))) := (Below.refl _ _).alloc (Nat.le_refl _) _
  go_enter Tryd.func19, Tryd.ntmps19
  go_upto_region 1 with (fail)
  refine wp_region_lit ?_
  refine Great.wpList_buildSliceTo rfl 43 3 12 _ rfl w.heap.size rfl (some 5) rfl Tryd.underlying43 mnV (by kernel_rfl) ?_
  generalize w.alloc (.cells mnV 3) = w1 at *
  obtain ⟨g, hg⟩ : ∃ g, w.heap.size = g := ⟨_, rfl⟩
  rw [hg] at HC ⊢
  by_cases hlo : op < 1
  · have HV : Hid (srt op = 0) := by show _ = _; unfold srt; rw [if_pos hlo]
    go_wp2
    go_ret
    exact ⟨ret_int HV.out.symm, HB.out⟩
  · have HG := Lib.hid hg
    clear hg
    have H1 := Lib.hid h1
    clear h1
    go_wp2
    go_loop [0, 4] (fun v0 v4 => ∃ (z j : Int), v0 = .int .i64 z ∧ v4 = .int .i64 j ∧ 0 ≤ j ∧ j ≤ 12 ∧ 1 ≤ z ∧ Hid (op = cum j.toNat + z)) (fun _ v4 => (12 - intOf v4).toNat)
    case atStart => exact ⟨op, 0, rfl, rfl, by omega, by omega, by omega, (show op = _ by rw [show cum (0 : Int).toNat = 0 by decide]; omega)⟩
    case round =>
      obtain ⟨z, j, rfl, rfl, j0, j1, z0, HZ⟩ := hrel
      by_cases hj : j < 12
      · have hc := HC.out j.toNat (by omega)
        have hm := mn_range (i := j.toNat) (by omega)
        have hz1 : z ≤ 9223372036854775807 := by have := H1.out; have := HZ.out; have := (cum_range (i := j.toNat) (by omega)).1; omega
        have HN := Lib.hid (cum_next (i := j.toNat) (by omega))
        have HS := Lib.hid (fun a b => srt_at (i := j.toNat) (by omega) (op := op) a b)
        generalize mnL.getD j.toNat 0 = m at *
        obtain ⟨m0, m1⟩ := hm
        go_wp2
        · have HV : Hid (srt op = (j.toNat : Int) + 1) := HS.out (by have := HZ.out; omega) (by have := HZ.out; omega)
          go_ret
          exact ⟨ret_int (by rw [HV.out]; omega), HB.out⟩
        · go_round
          case rel =>
            refine ⟨z - m, j + 1, rfl, rfl, by omega, by omega, by omega, ?_⟩
            show op = _
            rw [show (j + 1).toNat = j.toNat + 1 by omega, HN.out, HZ.out]
            omega
          case measure => simp [intOf]; omega
      · obtain rfl : j = 12 := by omega
        have HV : Hid (srt op = 0) := srt_end (by have := HZ.out; rw [show (12 : Int).toNat = 12 by decide] at this; omega)
        go_wp2
        go_ret
        exact ⟨ret_int HV.out.symm, HB.out⟩
end Go.Proofs.YtbnacdhhacafkaaDoor
