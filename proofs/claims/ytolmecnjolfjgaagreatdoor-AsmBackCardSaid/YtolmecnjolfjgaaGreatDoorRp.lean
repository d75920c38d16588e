/- The contracts of the document's Put, Mask and Get. -/
import Derived.Test.YtolmecnjolfjgaaGreatDoorRows
import Derived.Test.YtolmecnjolfjgaaGreatDoorBk4
import Derived.Test.YtolmecnjolfjgaaGreatDoorPl
import Derived.WalkKit
import Derived.WalkLawsBesides
import Derived.Deep.QuietTactic
import Derived.BigQuiet
import Derived.WalkSmall
import Derived.WalkSpells
import Derived.Lib.Hide
import Derived.Below
import Derived.Deep.Cut
import Derived.Deep.WholeRow
import Derived.LoopTactic
import Derived.OwnWalk
set_option maxRecDepth 100000
namespace Go.Proofs.YtolmecnjolfjgaaGreatDoor
open Go.RowKit

/-- The places lie at block g. -/
def At (f : Int) (g : Nat) (w : World) : Prop := ∀ i, i < 32 → w.cell? ⟨g, i, none⟩ = some (.int .i64 (plc f i))
theorem At.new (f : Int) (w : World) (t : TypeId) : At f w.heap.size (w.alloc (.cells (plcV f) t)) := fun i hi => by
  rw [cell_of_row _ _ i (plcV f) t (0, 0) (heap_alloc_last w _)]
  exact plcV_at f hi

set_option maxRecDepth 100000 in
theorem rput_any (f x : Int) (w : World) :
    Calls Tryz.prog 76 #[.int .i64 f, .int .i64 x] w fun e w' => e = .returned (.int .u32 (putK f (x % 18446744073709551616) 32)) ∧ Below w.heap.size w w' := by
  obtain ⟨U, hU⟩ : ∃ U : Int, x % 18446744073709551616 = U := ⟨_, rfl⟩
  have hU0 : 0 ≤ U := by omega
  have hU1 : U < 18446744073709551616 := by omega
  have hU2 : IntKind.u64.wrap x = U := by rw [IntKind.wrap_u64]; exact hU
  rw [hU]
  have HU := Lib.hid hU
  clear hU
  go_enter Tryz.func76, Tryz.ntmps76
  go_wp2_with (first
    | (go_at_call 122; refine (places_any _ _).mono ?_; rintro e w1 ⟨rfl, hb1⟩))
  rw [run_storeCells_new (P := Tryz.prog) w1 138 _ (plcV f) (by rw [plcV_size]; kernel_rfl) (by rw [plcV_size]; rfl) (plcV_one f)]
  have HA := Lib.hid (At.new f w1 138)
  have HB : Hid (Below w.heap.size w (w1.alloc (.cells (plcV f) 138))) := hb1.alloc hb1.size _
  obtain ⟨g, hg⟩ : ∃ g, w1.heap.size = g := ⟨_, rfl⟩
  rw [hg] at HA ⊢
  generalize w1.alloc (.cells (plcV f) 138) = w2 at *
  clear hg hb1
  go_wp2_with fail
  go_loop [6, 7] (fun v4 v5 => ∃ z j : Int, v5 = .int .i64 j ∧ v4 = .int .u32 z ∧ 0 ≤ j ∧ j ≤ 32 ∧ 0 ≤ z ∧ z < 4294967296 ∧ Hid (z = putK f U j.toNat)) (fun _ v5 => (32 - intOf v5).toNat)
  case atStart => exact ⟨0, 0, rfl, rfl, by omega, by omega, by omega, by omega, (show Hid _ from rfl)⟩
  case round =>
    obtain ⟨z, j, rfl, rfl, j0, j1, z0, z1, HZ⟩ := hrel
    by_cases hj : j < 32
    · have hc := HA.out j.toNat (by omega)
      obtain ⟨p, hp⟩ : ∃ p, plc f j.toNat = p := ⟨_, rfl⟩
      have hpr := plc_range f j.toNat (by omega)
      rw [hp] at hc hpr
      obtain ⟨p0, p1⟩ := hpr
      have hn := putK_range f U (j.toNat + 1)
      have h32 : (2 : Int) ^ (j.toNat + 1) ≤ 2 ^ 32 := p2le (by omega)
      rw [putK_succ, hp] at hn
      have HE := Lib.hid (putK_succ f U j.toNat)
      rw [hp] at HE
      have HP := Lib.hid hp
      clear hp
      rw [← HZ.out] at hn
      by_cases h0 : 0 ≤ p
      · have hd0 : 0 ≤ U / 2 ^ p.toNat := Int.ediv_nonneg hU0 (Int.le_of_lt (p2pos _))
        have hd1 : U / 2 ^ p.toNat < 18446744073709551616 := by have := Int.ediv_le_self (a := U) (2 ^ p.toNat) hU0; omega
        have ha := and1_u64 (U / 2 ^ p.toNat) hd0 hd1
        by_cases hbt : U / 2 ^ p.toNat % 2 = 1
        · rw [if_pos ⟨h0, hbt⟩] at hn HE
          rw [hbt] at ha
          clear hbt
          go_wp2
          go_round
          case rel =>
            refine ⟨z + 2 ^ j.toNat, j + 1, rfl, rfl, by omega, by omega, by omega, by omega, ?_⟩
            show _ = _
            rw [show (j + 1).toNat = j.toNat + 1 by omega, HE.out, HZ.out]
          case measure => simp [intOf]; omega
        · rw [if_neg (fun h => hbt h.2)] at hn HE
          have hb0 : U / 2 ^ p.toNat % 2 = 0 := by omega
          rw [hb0] at ha
          clear hbt hb0
          go_wp2
          go_round
          case rel =>
            refine ⟨z, j + 1, rfl, rfl, by omega, by omega, by omega, by omega, ?_⟩
            show _ = _
            rw [show (j + 1).toNat = j.toNat + 1 by omega, HE.out, HZ.out, Int.add_zero]
          case measure => simp [intOf]; omega
      · rw [if_neg (fun h => h0 h.1)] at hn HE
        go_wp2
        go_round
        case rel =>
          refine ⟨z, j + 1, rfl, rfl, by omega, by omega, by omega, by omega, ?_⟩
          show _ = _
          rw [show (j + 1).toNat = j.toNat + 1 by omega, HE.out, HZ.out, Int.add_zero]
        case measure => simp [intOf]; omega
    · obtain rfl : j = 32 := by omega
      go_wp2
      go_ret
      exact ⟨ret_int HZ.out, HB.out⟩

set_option maxRecDepth 100000 in
theorem rget_any (f v : Int) (hv0 : 0 ≤ v) (hv1 : v < 4294967296) (w : World) :
    Calls Tryz.prog 71 #[.int .i64 f, .int .u32 v] w fun e w' => e = .returned (.int .i64 (getK f v 32)) ∧ Below w.heap.size w w' := by
  go_enter Tryz.func71, Tryz.ntmps71
  go_wp2_with (first
    | (go_at_call 122; refine (places_any _ _).mono ?_; rintro e w1 ⟨rfl, hb1⟩))
  rw [run_storeCells_new (P := Tryz.prog) w1 138 _ (plcV f) (by rw [plcV_size]; kernel_rfl) (by rw [plcV_size]; rfl) (plcV_one f)]
  have HA := Lib.hid (At.new f w1 138)
  have HB : Hid (Below w.heap.size w (w1.alloc (.cells (plcV f) 138))) := hb1.alloc hb1.size _
  obtain ⟨g, hg⟩ : ∃ g, w1.heap.size = g := ⟨_, rfl⟩
  rw [hg] at HA ⊢
  generalize w1.alloc (.cells (plcV f) 138) = w2 at *
  clear hg hb1
  go_wp2_with fail
  go_loop [6, 7] (fun v4 v5 => ∃ z j : Int, v5 = .int .i64 j ∧ v4 = .int .i64 z ∧ 0 ≤ j ∧ j ≤ 32 ∧ -68719476736 ≤ z ∧ z ≤ 68719476736 ∧ Hid (z = getK f v j.toNat)) (fun _ v5 => (32 - intOf v5).toNat)
  case atStart => exact ⟨0, 0, rfl, rfl, by omega, by omega, by omega, by omega, (show Hid _ from rfl)⟩
  case round =>
    obtain ⟨z, j, rfl, rfl, j0, j1, z0, z1, HZ⟩ := hrel
    by_cases hj : j < 32
    · have hc := HA.out j.toNat (by omega)
      obtain ⟨p, hp⟩ : ∃ p, plc f j.toNat = p := ⟨_, rfl⟩
      have hpr := plc_range f j.toNat (by omega)
      rw [hp] at hc hpr
      obtain ⟨p0, p1⟩ := hpr
      have hn := getK_range f v (j.toNat + 1) (by omega)
      have h32 : (2 : Int) ^ p.toNat ≤ 2 ^ 31 := p2le (by omega)
      have e31 : (2 : Int) ^ 31 = 2147483648 := by decide
      rw [e31] at h32
      have hpp := p2pos p.toNat
      rw [getK_succ, hp] at hn
      have HE := Lib.hid (getK_succ f v j.toNat)
      rw [hp] at HE
      have HP := Lib.hid hp
      clear hp e31
      rw [← HZ.out] at hn
      by_cases h0 : 0 ≤ p
      · have hd0 : 0 ≤ v / 2 ^ j.toNat := Int.ediv_nonneg hv0 (Int.le_of_lt (p2pos _))
        have hd1 : v / 2 ^ j.toNat < 4294967296 := by have := Int.ediv_le_self (a := v) (2 ^ j.toNat) hv0; omega
        have ha := and1_u32 (v / 2 ^ j.toNat) hd0 hd1
        by_cases hbt : v / 2 ^ j.toNat % 2 = 1
        · rw [if_pos ⟨h0, hbt⟩] at hn HE
          rw [hbt] at ha
          clear hbt
          by_cases h31 : j = 31
          · rw [if_pos (by omega)] at hn HE
            have hb31 : (j == 31) = true := by simp [h31]
            have HJ := Lib.hid h31
            clear h31
            go_wp2
            go_round
            case rel =>
              refine ⟨z - 2 ^ p.toNat, j + 1, rfl, rfl, by omega, by omega, by omega, by omega, ?_⟩
              show _ = _
              rw [show (j + 1).toNat = j.toNat + 1 by omega, HE.out, HZ.out]; rfl
            case measure => simp [intOf]; omega
          · rw [if_neg (by omega)] at hn HE
            have hb31 : (j == 31) = false := by simp [h31]
            clear h31
            go_wp2
            go_round
            case rel =>
              refine ⟨z + 2 ^ p.toNat, j + 1, rfl, rfl, by omega, by omega, by omega, by omega, ?_⟩
              show _ = _
              rw [show (j + 1).toNat = j.toNat + 1 by omega, HE.out, HZ.out]
            case measure => simp [intOf]; omega
        · rw [if_neg (fun h => hbt h.2)] at hn HE
          have hb0 : v / 2 ^ j.toNat % 2 = 0 := by omega
          rw [hb0] at ha
          clear hbt hb0
          go_wp2
          go_round
          case rel =>
            refine ⟨z, j + 1, rfl, rfl, by omega, by omega, by omega, by omega, ?_⟩
            show _ = _
            rw [show (j + 1).toNat = j.toNat + 1 by omega, HE.out, HZ.out, Int.add_zero]
          case measure => simp [intOf]; omega
      · rw [if_neg (fun h => h0 h.1)] at hn HE
        go_wp2
        go_round
        case rel =>
          refine ⟨z, j + 1, rfl, rfl, by omega, by omega, by omega, by omega, ?_⟩
          show _ = _
          rw [show (j + 1).toNat = j.toNat + 1 by omega, HE.out, HZ.out, Int.add_zero]
        case measure => simp [intOf]; omega
    · obtain rfl : j = 32 := by omega
      go_wp2
      go_ret
      exact ⟨ret_int HZ.out, HB.out⟩
end Go.Proofs.YtolmecnjolfjgaaGreatDoor
