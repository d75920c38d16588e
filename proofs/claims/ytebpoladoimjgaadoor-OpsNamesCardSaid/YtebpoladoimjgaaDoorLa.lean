/- The laws on sorts and on registers, walked over what is asked of package ops. -/
import Derived.Test.YtebpoladoimjgaaDoorRows
import Derived.Test.YtebpoladoimjgaaDoorCo
import Derived.WalkKit
import Derived.WalkLawsBesides
import Derived.Deep.QuietTactic
import Derived.BigQuiet
import Derived.WalkSmall
import Derived.WalkSpells
import Derived.Lib.Hide
import Derived.Below
import Derived.Deep.Cut
import Derived.LoopTactic
namespace Go.Proofs.YtebpoladoimjgaaDoor
open Go.RowKit

theorem alive_any {W : World} (C : Cops W) (w : World) (h : BW W w) : Calls Tryd.prog 6 #[] w fun e w' => e = .returned (.bool true) ∧ BW W w' := by
  have o1 : I64 13 := ⟨by decide, by decide⟩
  have o2 : I64 57 := ⟨by decide, by decide⟩
  have o3 : I64 54 := ⟨by decide, by decide⟩
  have S := fun w (h : BW W w) => c_sort C h o1
  have Z := fun w (h : BW W w) => c_size C h o2
  have N := fun w (h : BW W w) => c_name C h o3
  have Y := fun w (h : BW W w) => c_byname C h ⟨#[115, 100]⟩
  have R := fun w (h : BW W w) => C.sources ⟨35, 0, 0, 5, 0, false, false, 0, 0⟩ w h ⟨by decide, by decide⟩
  rw [show srt 13 = 4 by decide] at S
  rw [show siz 57 = 8 by decide] at Z
  rw [show tx (nmO 54) = .string ⟨#[108, 114, 46, 119]⟩ from rfl] at N
  rw [show bynm (ByteArray.toList ⟨#[115, 100]⟩) = 21 by rw [show (⟨#[115, 100]⟩ : ByteArray).toList = [115, 100] from bs_list [115, 100]]; decide] at Y
  have hsr : srcs ⟨35, 0, 0, 5, 0, false, false, 0, 0⟩ = [5] := by decide
  rw [hsr] at R
  unfold insV at R
  clear o1 o2 o3 hsr
  go_enter Tryd.func6, Tryd.ntmps6
  go_wp2_with (first
    | (go_at_call 16; refine (S _ (by assumption)).mono ?_; rintro e w' ⟨rfl, HB⟩)
    | (go_at_call 17; refine (Z _ (by assumption)).mono ?_; rintro e w' ⟨rfl, HB⟩)
    | (go_at_call 15; refine (N _ (by assumption)).mono ?_; rintro e w' ⟨rfl, HB⟩)
    | (go_at_call 14; refine (Y _ (by assumption)).mono ?_; rintro e w' ⟨rfl, HB⟩)
    | (go_at_call 9; refine (R _ (by assumption)).mono ?_; rintro e w' ⟨A, cap, rfl, _, hb⟩; have HX := Lib.hid (BW.on HB hb); clear hb))
  go_ret
  exact ⟨rfl, HX.out⟩

set_option maxRecDepth 100000 in
theorem sorts_law {W : World} (C : Cops W) (op : Int) (ho : I64 op) :
    Calls Tryd.prog 3 #[.int .i64 op] W fun e w' => e = .returned (.bool true) ∧ Below W.heap.size W w' := by
  have HB : BW W W := Below.refl _ _
  have L := fun w (h : BW W w) => alive_any C w h
  have O := fun w (h : BW W w) => one_any C op ho w h
  have HO := Lib.hid ho
  clear ho
  go_enter Tryd.func3, Tryd.ntmps3
  go_wp2_with (first
    | (go_at_call 6; refine (L _ (by assumption)).mono ?_; rintro e w' ⟨rfl, HB⟩))
  go_loopg [3] 81 (fun gg v3 wr => BW W wr ∧ ∃ j : Int, v3 = .int .i64 j ∧ j + gg = 80 ∧ -1 ≤ j)
  case atStart => exact ⟨by assumption, -1, rfl, by omega, by omega⟩
  case round =>
    obtain ⟨hbw, j, rfl, hj, hj1⟩ := hrel
    obtain ⟨w2, rfl⟩ : ∃ w2 : World, w2 = wr := ⟨_, rfl⟩
    by_cases hj7 : j < 80
    · have O2 := fun w (h : BW W w) => one_any C j ⟨by omega, by omega⟩ w h
      go_wp2_with (first
        | (go_at_call 7; refine (O2 _ (by assumption)).mono ?_; rintro e w' ⟨rfl, HB⟩))
      go_roundg (80 - (j + 1)).toNat
      case measure => omega
      case rel => exact ⟨by assumption, j + 1, rfl, by omega, by omega⟩
    · obtain rfl : j = 80 := by omega
      go_wp2_with (first
        | (go_at_call 6; refine (L _ (by assumption)).mono ?_; rintro e w' ⟨rfl, HB⟩)
        | (go_at_call 7; refine (O _ (by assumption)).mono ?_; rintro e w' ⟨rfl, HB⟩))
      go_ret
      exact ⟨rfl, by assumption⟩
end Go.Proofs.YtebpoladoimjgaaDoor
