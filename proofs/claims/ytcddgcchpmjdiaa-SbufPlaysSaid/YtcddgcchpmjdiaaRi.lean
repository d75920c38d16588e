/- The contract of SameInts, and the law on registers, walked over what is asked of package ops. -/
import Derived.Test.YtcddgcchpmjdiaaRows
import Derived.Test.YtcddgcchpmjdiaaOp5
import Derived.WalkKit
import Derived.WalkLawsBesides
import Derived.WalkSmall
import Derived.WalkSpells
import Derived.Deep.LoopGhost
import Derived.Deep.QuietTactic
import Derived.BigQuiet
import Derived.Lib.Hide
import Derived.Below
import Derived.LoopTactic
import Derived.Deep.RegionHeld3
import Derived.Deep.DeepCutAuto
set_option maxRecDepth 100000
namespace Go.Proofs.Ytcddgcchpmjdiaa
open Go.RowKit


theorem below_drewN' {B : Nat} {a w : World} (h : Below B a w) (n : Nat) : Below B a (w.drewN n) := ⟨h.os, h.tape, h.output, h.size, h.block⟩

theorem sameInts_any (A A' : Option Addr) (cap cap' : Nat) (l l' : List Int) (w : World) (hl : l.length ≤ 9223372036854775807)
    (hr : Rd w w.heap.size A (cellsI l)) (hr' : Rd w w.heap.size A' (cellsI l')) :
    Calls Try.prog 29 #[.slice A l.length cap, .slice A' l'.length cap'] w fun e w' => e = .returned (.bool (decide (l = l'))) ∧ Below w.heap.size w w' := by
  by_cases hne : l.length = l'.length
  · have hb : ((l.length : Int) != l'.length) = false := by simp [hne]
    have HN := Lib.hid hne; clear hne
    go_enter Try.func29, Try.ntmps29
    go_wp2
    go_loopw [5] (fun i wx => Below w.heap.size w wx ∧ ∃ k : Nat, k ≤ l.length ∧ i = .int .i64 k ∧ l.take k = l'.take k) (fun i _ => l.length - (intOf i).toNat)
    case atStart => exact ⟨Below.refl _ _, 0, by omega, rfl, by simp⟩
    case round =>
      obtain ⟨hbl, k, hk, rfl, htk⟩ := hrel
      have HT := Lib.hid htk; clear htk
      by_cases hlt : k < l.length
      · obtain ⟨b, off, rfl, _, hc⟩ := (hr.below hbl).at (i := k) (by unfold cellsI; rw [List.length_map]; exact hlt)
        obtain ⟨b', off', rfl, _, hc'⟩ := (hr'.below hbl).at (i := k) (by unfold cellsI; rw [List.length_map, ← HN.out]; exact hlt)
        simp only [cellsI, List.getElem_map] at hc hc'
        have hltI : (k : Int) < l.length := by omega
        have hltJ : (k : Int) < l'.length := by have := HN.out; omega
        by_cases he : l[k] = l'[k]'(by have := HN.out; omega)
        · have ht : (l[k] != l'[k]'(by have := HN.out; omega)) = false := by simp [he]
          have HE := Lib.hid he; clear he
          go_wp2
          go_quiet (fail)
          go_wp2
          go_roundw
          case rel =>
            refine ⟨below_drewN' hbl _, k + 1, by omega, by go_num, ?_⟩
            rw [List.take_succ_eq_append_getElem hlt, List.take_succ_eq_append_getElem (by have := HN.out; omega), HT.out, HE.out]
          case measure => simp [intOf]; omega
        · have ht : (l[k] != l'[k]'(by have := HN.out; omega)) = true := by simp [he]
          have HE := Lib.hid he; clear he
          go_wp2
          go_quiet (fail)
          go_wp2
          go_ret
          refine ⟨ret_bool (Eq.symm (decide_eq_false fun e => HE.out ?_)), below_drewN' hbl _⟩
          simp only [e]
      · go_wp2
        go_ret
        refine ⟨ret_bool (Eq.symm (decide_eq_true ?_)), hbl⟩
        have ht := HT.out
        rwa [List.take_of_length_le (by omega), List.take_of_length_le (by have := HN.out; omega)] at ht
  · have hb : ((l.length : Int) != l'.length) = true := by simp; omega
    have HN := Lib.hid hne; clear hne
    go_enter Try.func29, Try.ntmps29
    go_wp2
    go_ret
    exact ⟨ret_bool (Eq.symm (decide_eq_false fun e => HN.out (by rw [e]))), Below.refl _ _⟩

theorem sameInts_at (A A' : Option Addr) (cap cap' : Nat) (l l' : List Int) (n : Nat) (w : World) (e1 : l.length = n) (e2 : l'.length = n) (hl : n ≤ 9223372036854775807)
    (hr : Rd w w.heap.size A (cellsI l)) (hr' : Rd w w.heap.size A' (cellsI l')) :
    Calls Try.prog 29 #[.slice A n cap, .slice A' n cap'] w fun e w' => e = .returned (.bool (decide (l = l'))) ∧ Below w.heap.size w w' := by
  have h := sameInts_any A A' cap cap' l l' w (by omega) hr hr'
  rw [e1, e2] at h
  exact h

/-- The instruction's nine cells, spelled out. -/
def I9 (W : World) (i : Ins) (w : World) : Prop :=
  BW W w ∧ w.cell? ⟨W.heap.size, 0, none⟩ = some (.int .i64 i.op) ∧ w.cell? ⟨W.heap.size, 1, none⟩ = some (.int .i64 i.rd) ∧ w.cell? ⟨W.heap.size, 2, none⟩ = some (.int .i64 i.rs1) ∧ w.cell? ⟨W.heap.size, 3, none⟩ = some (.int .i64 i.rs2) ∧
    w.cell? ⟨W.heap.size, 4, none⟩ = some (.int .i64 i.imm) ∧ w.cell? ⟨W.heap.size, 5, none⟩ = some (.bool i.aq) ∧ w.cell? ⟨W.heap.size, 6, none⟩ = some (.bool i.rl) ∧ w.cell? ⟨W.heap.size, 7, none⟩ = some (.int .i64 i.pred) ∧ w.cell? ⟨W.heap.size, 8, none⟩ = some (.int .i64 i.succ)
theorem I9.of {W : World} {i : Ins} {w : World} (hb : BW W w) (h : InsAt i W.heap.size w) : I9 W i w :=
  ⟨hb, h.2 0 _ rfl, h.2 1 _ rfl, h.2 2 _ rfl, h.2 3 _ rfl, h.2 4 _ rfl, h.2 5 _ rfl, h.2 6 _ rfl, h.2 7 _ rfl, h.2 8 _ rfl⟩
theorem I9.at {W : World} {i : Ins} {w : World} (h : I9 W i w) : BW W w ∧ InsAt i W.heap.size w := by
  obtain ⟨hb, c0, c1, c2, c3, c4, c5, c6, c7, c8⟩ := h
  refine ⟨hb, World.block_lt_of_cell? w _ c0, fun k v hv => ?_⟩
  have hk : k < 9 := (Array.getElem?_eq_some_iff.1 hv).1
  have h9 : k = 0 ∨ k = 1 ∨ k = 2 ∨ k = 3 ∨ k = 4 ∨ k = 5 ∨ k = 6 ∨ k = 7 ∨ k = 8 := by omega
  rcases h9 with rfl | rfl | rfl | rfl | rfl | rfl | rfl | rfl | rfl <;> (cases hv; assumption)
theorem I9.on {W : World} {i : Ins} {w w' : World} (h : I9 W i w) (hb : Below w.heap.size w w') : I9 W i w' := I9.of (h.at.1.on hb) (h.at.2.on hb)
theorem BW.drew {W w : World} (h : BW W w) : BW W w.drew := Below.drew h

section
variable {W : World} (i : Ins) (ho : I64 i.op) (w : World) (h : I9 W i w)
include h
include ho
/-- The call's list of registers, in a world behind. -/
def Got (W : World) (i : Ins) (l : List Int) (e : Ending) (w' : World) : Prop := ∃ A cap, e = .returned (.slice A l.length cap) ∧ Rd w' w'.heap.size A (cellsI l) ∧ I9 W i w'
def Got2 (W : World) (i : Ins) (l : List Int) (A0 : Option Addr) (e : Ending) (w' : World) : Prop := ∃ A cap, e = .returned (.slice A l.length cap) ∧ Rd w' w'.heap.size A (cellsI l) ∧ Rd w' w'.heap.size A0 (cellsI l) ∧ I9 W i w'
omit ho in
theorem s_same {A A' : Option Addr} (cap cap' : Nat) (l : List Int) (hl : l.length ≤ 2) (hr : Rd w w.heap.size A (cellsI l)) (hr' : Rd w w.heap.size A' (cellsI l)) :
    Calls Try.prog 29 #[.slice A l.length cap, .slice A' l.length cap'] w fun e w' => e = .returned (.bool true) ∧ I9 W i w' :=
  (sameInts_any A A' cap cap' l l w (by omega) hr hr').mono fun _ _ ⟨he, hb⟩ => ⟨by rw [he]; simp, h.on hb⟩
end
theorem srcs_len (i : Ins) : (srcs i).length ≤ 2 := by
  unfold srcs
  split <;> split <;> simp

end Go.Proofs.Ytcddgcchpmjdiaa
