/- What is asked of the program's functions of package alu (each proved of the code, at its round), and 'alive', walked over it. -/
import Derived.Test.YtoifkdjalddhkaaDoorRows
import Derived.Test.YtoifkdjalddhkaaDoorRs
import Derived.Test.YtoifkdjalddhkaaDoorRn
import Derived.Test.YtoifkdjalddhkaaDoorRk
import Derived.Test.YtoifkdjalddhkaaDoorSy
import Derived.WalkKit
import Derived.WalkLawsBesides
import Derived.Deep.QuietTactic
import Derived.BigQuiet
import Derived.WalkSmall
import Derived.WalkSpells
import Derived.Lib.Hide
import Derived.Below
import Derived.LoopTactic
namespace Go.Proofs.YtoifkdjalddhkaaDoor
open Go.RowKit

/-- In every world behind W. -/
structure Calu (W : World) : Prop where
  result : ∀ i pc a b w, BW W w → I64 i.op → U64 pc → U64 a → U64 b → Calls Tryd.prog 9 #[insV i, .int .u64 pc, .int .u64 a, .int .u64 b] w fun e w' => e = .returned (.int .u64 (resV i.op i.imm pc a b)) ∧ Below w.heap.size w w'
  taken : ∀ i a b w, BW W w → I64 i.op → U64 a → U64 b → Calls Tryd.prog 11 #[insV i, .int .u64 a, .int .u64 b] w fun e w' => e = .returned (.bool (takV i.op a b)) ∧ Below w.heap.size w w'
  next : ∀ i pc a b w, BW W w → I64 i.op → U64 pc → U64 a → U64 b → Calls Tryd.prog 13 #[insV i, .int .u64 pc, .int .u64 a, .int .u64 b] w fun e w' => e = .returned (.int .u64 (nxtV i.op i.imm pc a b)) ∧ Below w.heap.size w w'
  address : ∀ i a w, BW W w → I64 i.op → U64 a → Calls Tryd.prog 15 #[insV i, .int .u64 a] w fun e w' => e = .returned (.int .u64 (adrV i.op i.imm a)) ∧ Below w.heap.size w w'
  loaded : ∀ op raw w, BW W w → I64 op → U64 raw → Calls Tryd.prog 17 #[.int .i64 op, .int .u64 raw] w fun e w' => e = .returned (.int .u64 (loaV op raw)) ∧ Below w.heap.size w w'
  stored : ∀ op old b w, BW W w → I64 op → U64 old → U64 b → Calls Tryd.prog 19 #[.int .i64 op, .int .u64 old, .int .u64 b] w fun e w' => e = .returned (.int .u64 (stoV op old b)) ∧ Below w.heap.size w w'
  odd : ∀ w, BW W w → Calls Tryd.prog 23 #[.int .i64 13, .int .u64 2, .int .i64 8] w fun e w' => e = .returned (.int .i64 4) ∧ Below w.heap.size w w'
theorem Calu.on {W w : World} (C : Calu W) (h : BW W w) : Calu w :=
  ⟨fun i pc a b x hx => C.result i pc a b x (h.on hx), fun i a b x hx => C.taken i a b x (h.on hx), fun i pc a b x hx => C.next i pc a b x (h.on hx), fun i a x hx => C.address i a x (h.on hx), fun op raw x hx => C.loaded op raw x (h.on hx), fun op o b x hx => C.stored op o b x (h.on hx), fun x hx => C.odd x (h.on hx)⟩
instance (x : Int) : Decidable (U64 x) := by unfold U64; infer_instance
theorem al_1 : resV 30 1 0 18446744073709551614 0 = 18446744073709551615 := by decide +kernel
theorem al_2 : stoV 63 4294967295 1 = 4294967295 := by decide +kernel
theorem al_3 : nxtV 4 1 0 2 0 = 2 := by decide +kernel
theorem al_4 : loaV 11 128 = 18446744073709551488 := by decide +kernel
theorem al_5 : takV 5 1 1 = true := by decide +kernel
theorem al_6 : adrV 20 4 4 = 8 := by decide +kernel
theorem alive_any {W : World} (C : Calu W) (w : World) (h : BW W w) : Calls Tryd.prog 8 #[] w fun e w' => e = .returned (.bool true) ∧ BW W w' := by
  have lo : ∀ x : Int, 0 ≤ x → x ≤ 100 → I64 x := fun x h0 h1 => ⟨by omega, by omega⟩
  have K1 := fun w (h : BW W w) => past h (C.result ⟨30, 0, 0, 0, 1, false, false, 0, 0⟩ 0 18446744073709551614 0 w h (lo _ (by decide) (by decide)) (by decide) (by decide) (by decide))
  have K2 := fun w (h : BW W w) => past h (C.stored 63 4294967295 1 w h (lo _ (by decide) (by decide)) (by decide) (by decide))
  have K3 := fun w (h : BW W w) => past h (C.next ⟨4, 0, 0, 0, 1, false, false, 0, 0⟩ 0 2 0 w h (lo _ (by decide) (by decide)) (by decide) (by decide) (by decide))
  have K4 := fun w (h : BW W w) => past h (C.loaded 11 128 w h (lo _ (by decide) (by decide)) (by decide))
  have K5 := fun w (h : BW W w) => past h (C.taken ⟨5, 0, 0, 0, 0, false, false, 0, 0⟩ 1 1 w h (lo _ (by decide) (by decide)) (by decide) (by decide))
  have K6 := fun w (h : BW W w) => past h (C.address ⟨20, 0, 0, 0, 4, false, false, 0, 0⟩ 4 w h (lo _ (by decide) (by decide)) (by decide))
  have K7 := fun w (h : BW W w) => past h (C.odd w h)
  rw [al_1] at K1
  rw [al_2] at K2
  rw [al_3] at K3
  rw [al_4] at K4
  rw [al_5] at K5
  rw [al_6] at K6
  unfold insV at K1 K3 K5 K6
  clear lo
  go_enter Tryd.func8, Tryd.ntmps8
  go_wp2_with (first
    | (go_at_call 9; refine (K1 _ (by assumption)).mono ?_; rintro e w' ⟨rfl, h, _⟩)
    | (go_at_call 19; refine (K2 _ (by assumption)).mono ?_; rintro e w' ⟨rfl, h, _⟩)
    | (go_at_call 13; refine (K3 _ (by assumption)).mono ?_; rintro e w' ⟨rfl, h, _⟩)
    | (go_at_call 17; refine (K4 _ (by assumption)).mono ?_; rintro e w' ⟨rfl, h, _⟩)
    | (go_at_call 11; refine (K5 _ (by assumption)).mono ?_; rintro e w' ⟨rfl, h, _⟩)
    | (go_at_call 15; refine (K6 _ (by assumption)).mono ?_; rintro e w' ⟨rfl, h, _⟩)
    | (go_at_call 23; refine (K7 _ (by assumption)).mono ?_; rintro e w' ⟨rfl, h, _⟩))
  go_ret
  exact ⟨rfl, by assumption⟩
end Go.Proofs.YtoifkdjalddhkaaDoor
