/- The program's small functions of package show: annotation, register, shape, isMark, set, readSet. -/
import Derived.Test.YtdpbiboldmoadaaDoorRows
import Derived.Test.YtdpbiboldmoadaaDoorSf
import Derived.Test.YtdpbiboldmoadaaDoorPt
import Derived.Test.YtdpbiboldmoadaaDoorOp5
import Derived.Test.YtdpbiboldmoadaaDoorWx
import Derived.WalkKit
import Derived.WalkLawsBesides
import Derived.Deep.QuietTactic
import Derived.BigQuiet
import Derived.WalkSmall
import Derived.WalkSpells
import Derived.Lib.Hide
import Derived.Below
import Derived.LoopTactic
import Derived.Outline
import Derived.OwnWalk
import Derived.Laws.AppendOwn
set_option maxRecDepth 100000
namespace Go.Proofs.YtdpbiboldmoadaaDoor
open Go.RowKit

theorem ret_tx {a b : List UInt8} (h : a = b) : Ending.returned (.string (bs a)) = .returned (tx b) := by rw [h]; rfl
theorem annot_c (aq rl : Bool) (w : World) : Calls Tryd.prog 20 #[.bool aq, .bool rl] w fun e w' => e = .returned (tx (annT aq rl)) ∧ w = w' := by
  cases aq <;> cases rl
  all_goals
    go_enter Tryd.func20, Tryd.ntmps20
    go_wp2
    go_ret
    exact ⟨rfl, rfl⟩
theorem sregister_c (r : Int) (h : 0 ≤ r ∧ r ≤ 31) (w : World) : Calls Tryd.prog 44 #[.int .i64 r] w fun e w' => e = .returned (tx (regT r)) ∧ w = w' := by
  have HK : ∀ w, Calls Tryd.prog 59 #[.int .i64 r] w fun e w' => e = .returned (.string (bs (digI r))) ∧ w' = w := by
    intro w
    have := Tryd.strconv_Itoa_small r.toNat (by omega) w
    rw [show ((r.toNat : Nat) : Int) = r by omega, reg_dec h] at this
    exact this
  have hl : (digI r).length ≤ 20 := by
    unfold digI
    rw [if_neg (by omega)]
    exact digF_len 20 _
  have HV : Hid (regT r = 120 :: digI r) := rfl
  have ha : ∀ w2 : World, (Op.stringOp .add (⟨#[120]⟩ : ByteArray) (bs (digI r))).run Tryd.prog w2 = .ok (.string (bs (120 :: digI r))) w2 := fun w2 => run_string_add_lists w2 [120] (digI r) (by decide) (by omega)
  generalize digI r = d at *
  clear hl h
  go_enter Tryd.func44, Tryd.ntmps44
  go_wp2_with (first
    | (go_at_call 59; refine (HK _).mono ?_; rintro e w' ⟨rfl, rfl⟩))
  go_ret
  exact ⟨ret_tx HV.out.symm, rfl⟩

/-! ### Shapes -/
def TabT (g : Nat) (l : List (List UInt8)) (w : World) : Prop := ∀ i, i < l.length → w.cell? ⟨g, i, none⟩ = some (tx (l.getD i []))
theorem TabT.below {g : Nat} {l : List (List UInt8)} {W w : World} (h : TabT g l W) (hb : Below W.heap.size W w) : TabT g l w := fun i hi => by
  have hz := World.block_lt_of_cell? W _ (h i hi)
  rw [hb.cell (p := ⟨g, i, none⟩) hz]; exact h i hi
def TabS (w : World) : Prop := TabT 1 shpL w
theorem shape_c (op : Int) (ho : I64 op) (w : World) (hL : TabL w) (hS : TabS w) : Calls Tryd.prog 21 #[.int .i64 op] w fun e w' => e = .returned (tx (shpT op)) ∧ w = w' := by
  have hs := srt_spec op
  have KS := fun w hT => sort_c op ho w hT
  by_cases h3 : op = 3
  · subst h3
    have hc := hS 1 (by decide)
    unfold tx at hc
    have HV : Hid (shpL.getD 1 [] = shpT 3) := rfl
    clear hs KS hL hS ho
    generalize shpL.getD 1 [] = q at *
    go_enter Tryd.func21, Tryd.ntmps21
    go_wp2
    go_ret
    exact ⟨ret_tx HV.out, rfl⟩
  by_cases h51 : op = 51
  · subst h51
    have hc := hS 9 (by decide)
    unfold tx at hc
    have HV : Hid (shpL.getD 9 [] = shpT 51) := rfl
    clear hs KS hL hS ho
    generalize shpL.getD 9 [] = q at *
    go_enter Tryd.func21, Tryd.ntmps21
    go_wp2
    go_ret
    exact ⟨ret_tx HV.out, rfl⟩
  obtain ⟨k, hk, hlt⟩ : ∃ k : Nat, srt op = (k : Int) ∧ k < 13 := ⟨(srt op).toNat, by omega, by omega⟩
  have hc := hS k hlt
  unfold tx at hc
  have HV : Hid (shpL.getD k [] = shpT op) := (shp_at h3 h51 hk).symm
  have hltI : (k : Int) < 13 := by omega
  have b3 : (op == 3) = false := by simpa using h3
  have b51 : (op == 51) = false := by simpa using h51
  rw [hk] at KS
  clear hs hk h3 h51
  generalize shpL.getD k [] = q at *
  go_enter Tryd.func21, Tryd.ntmps21
  go_wp2_with (first
    | (go_at_call 40; refine (KS _ hL).mono ?_; rintro e w' ⟨rfl, rfl⟩))
  go_ret
  exact ⟨ret_tx HV.out, rfl⟩

/-! ### Marks -/
theorem mark_idx : ∀ c : Fin 256, (decide (0 ≤ Lib.indexByte [32, 44, 40, 41] (UInt8.ofNat c.val))) = isMk (UInt8.ofNat c.val) := by decide +kernel
theorem isMark_c (c : UInt8) (w : World) : Calls Tryd.prog 52 #[.int .u8 (c.toNat : Int)] w fun e w' => e = .returned (.bool (isMk c)) ∧ w = w' := by
  have HK : ∀ w, Calls Tryd.prog 63 #[.string ⟨#[32, 44, 40, 41]⟩, .int .u8 (c.toNat : Int)] w fun e w' => e = .returned (.int .i64 (Lib.indexByte [32, 44, 40, 41] c)) ∧ w' = w := by
    intro w
    have := Tryd.strings_IndexByte ⟨#[32, 44, 40, 41]⟩ (c.toNat : Int) w
    rw [show ((c.toNat : Int)).toNat.toUInt8 = c by simp] at this
    exact this
  have HV : Hid (decide (0 ≤ Lib.indexByte [32, 44, 40, 41] c) = isMk c) := by
    have := mark_idx ⟨c.toNat, c.toNat_lt⟩
    simp only [UInt8.ofNat_toNat] at this
    exact this
  generalize Lib.indexByte [32, 44, 40, 41] c = x at *
  generalize isMk c = b at *
  go_enter Tryd.func52, Tryd.ntmps52
  go_wp2_with (first
    | (go_at_call 63; refine (HK _).mono ?_; rintro e w' ⟨rfl, rfl⟩))
  go_ret
  exact ⟨ret_bool HV.out, rfl⟩
end Go.Proofs.YtdpbiboldmoadaaDoor
