/- The contract of SameInts, and the law on registers, walked over what is asked of package ops. -/
import Derived.Test.YtebpoladoimjgaaDoorRows
import Derived.Test.YtebpoladoimjgaaDoorLa
import Derived.WalkKit
import Derived.WalkLawsBesides
import Derived.WalkSmall
import Derived.WalkSpells
import Derived.Deep.LoopGhost
import Derived.Deep.QuietTactic
import Derived.BigQuiet
import Derived.Lib.Hide
import Derived.Below
import Derived.LoopTactic
import Derived.Deep.RegionHeld3
import Derived.Deep.DeepCutAuto
namespace Go.Proofs.YtebpoladoimjgaaDoor
open Go.RowKit

section
variable {w w' : World} {B B' : Nat} {A : Option Addr} {xs : List Value}
theorem Rd.at (h : Rd w B A xs) {i : Nat} (hi : i < xs.length) :
    ∃ b off, A = some ⟨b, off, none⟩ ∧ b < B ∧ w.cell? ⟨b, off + i, none⟩ = some xs[i] := by
  rcases h with rfl | ⟨b, off, rfl, hb, hc⟩
  · cases hi
  · exact ⟨b, off, rfl, hb, hc i _ (List.getElem?_eq_getElem hi)⟩
theorem Rd.keep (h : Rd w B A xs) (hk : ∀ b off, b < B → w'.cell? ⟨b, off, none⟩ = w.cell? ⟨b, off, none⟩) : Rd w' B A xs := by
  rcases h with rfl | ⟨b, off, rfl, hb, hc⟩
  · exact .inl rfl
  · exact .inr ⟨b, off, rfl, hb, fun i v hv => (hk b _ hb).trans (hc i v hv)⟩
theorem Rd.mono (h : Rd w B A xs) (hB : B ≤ B') : Rd w B' A xs := by
  rcases h with rfl | ⟨b, off, rfl, hb, hc⟩
  · exact .inl rfl
  · exact .inr ⟨b, off, rfl, by omega, hc⟩
theorem Rd.below (h : Rd w B A xs) (hb : Below B w w') : Rd w' B A xs := h.keep fun b off hlt => hb.cell (p := ⟨b, off, none⟩) hlt
end

theorem below_drewN' {B : Nat} {a w : World} (h : Below B a w) (n : Nat) : Below B a (w.drewN n) := ⟨h.os, h.tape, h.output, h.size, h.block⟩

theorem sameInts_any (A A' : Option Addr) (cap cap' : Nat) (l l' : List Int) (w : World) (hl : l.length ≤ 9223372036854775807)
    (hr : Rd w w.heap.size A (cellsI l)) (hr' : Rd w w.heap.size A' (cellsI l')) :
    Calls Tryd.prog 8 #[.slice A l.length cap, .slice A' l'.length cap'] w fun e w' => e = .returned (.bool (decide (l = l'))) ∧ Below w.heap.size w w' := by
  by_cases hne : l.length = l'.length
  · have hb : ((l.length : Int) != l'.length) = false := by simp [hne]
    have HN := Lib.hid hne; clear hne
    go_enter Tryd.func8, Tryd.ntmps8
    go_wp2
    go_loopw [5] (fun i wx => Below w.heap.size w wx ∧ ∃ k : Nat, k ≤ l.length ∧ i = .int .i64 k ∧ l.take k = l'.take k) (fun i _ => l.length - (intOf i).toNat)
    case atStart => exact ⟨Below.refl _ _, 0, by omega, rfl, by simp⟩
    case round =>
      obtain ⟨hbl, k, hk, rfl, htk⟩ := hrel
      have HT := Lib.hid htk; clear htk
      by_cases hlt : k < l.length
      · obtain ⟨b, off, rfl, _, hc⟩ := (hr.below hbl).at (i := k) (by unfold cellsI; rw [List.length_map]; exact hlt)
        obtain ⟨b', off', rfl, _, hc'⟩ := (hr'.below hbl).at (i := k) (by unfold cellsI; rw [List.length_map, ← HN.out]; exact hlt)
        simp only [cellsI, List.getElem_map] at hc hc'
        have hltI : (k : Int) < l.length := by omega
        have hltJ : (k : Int) < l'.length := by have := HN.out; omega
        by_cases he : l[k] = l'[k]'(by have := HN.out; omega)
        · have ht : (l[k] != l'[k]'(by have := HN.out; omega)) = false := by simp [he]
          have HE := Lib.hid he; clear he
          go_wp2
          go_quiet (fail)
          go_wp2
          go_roundw
          case rel =>
            refine ⟨below_drewN' hbl _, k + 1, by omega, by go_num, ?_⟩
            rw [List.take_succ_eq_append_getElem hlt, List.take_succ_eq_append_getElem (by have := HN.out; omega), HT.out, HE.out]
          case measure => simp [intOf]; omega
        · have ht : (l[k] != l'[k]'(by have := HN.out; omega)) = true := by simp [he]
          have HE := Lib.hid he; clear he
          go_wp2
          go_quiet (fail)
          go_wp2
          go_ret
          refine ⟨ret_bool (Eq.symm (decide_eq_false fun e => HE.out ?_)), below_drewN' hbl _⟩
          simp only [e]
      · go_wp2
        go_ret
        refine ⟨ret_bool (Eq.symm (decide_eq_true ?_)), hbl⟩
        have ht := HT.out
        rwa [List.take_of_length_le (by omega), List.take_of_length_le (by have := HN.out; omega)] at ht
  · have hb : ((l.length : Int) != l'.length) = true := by simp; omega
    have HN := Lib.hid hne; clear hne
    go_enter Tryd.func8, Tryd.ntmps8
    go_wp2
    go_ret
    exact ⟨ret_bool (Eq.symm (decide_eq_false fun e => HN.out (by rw [e]))), Below.refl _ _⟩

theorem sameInts_at (A A' : Option Addr) (cap cap' : Nat) (l l' : List Int) (n : Nat) (w : World) (e1 : l.length = n) (e2 : l'.length = n) (hl : n ≤ 9223372036854775807)
    (hr : Rd w w.heap.size A (cellsI l)) (hr' : Rd w w.heap.size A' (cellsI l')) :
    Calls Tryd.prog 8 #[.slice A n cap, .slice A' n cap'] w fun e w' => e = .returned (.bool (decide (l = l'))) ∧ Below w.heap.size w w' := by
  have h := sameInts_any A A' cap cap' l l' w (by omega) hr hr'
  rw [e1, e2] at h
  exact h

/-- The instruction's nine cells, spelled out. -/
def I9 (W : World) (i : Ins) (w : World) : Prop :=
  BW W w ∧ w.cell? ⟨W.heap.size, 0, none⟩ = some (.int .i64 i.op) ∧ w.cell? ⟨W.heap.size, 1, none⟩ = some (.int .i64 i.rd) ∧ w.cell? ⟨W.heap.size, 2, none⟩ = some (.int .i64 i.rs1) ∧ w.cell? ⟨W.heap.size, 3, none⟩ = some (.int .i64 i.rs2) ∧
    w.cell? ⟨W.heap.size, 4, none⟩ = some (.int .i64 i.imm) ∧ w.cell? ⟨W.heap.size, 5, none⟩ = some (.bool i.aq) ∧ w.cell? ⟨W.heap.size, 6, none⟩ = some (.bool i.rl) ∧ w.cell? ⟨W.heap.size, 7, none⟩ = some (.int .i64 i.pred) ∧ w.cell? ⟨W.heap.size, 8, none⟩ = some (.int .i64 i.succ)
theorem I9.of {W : World} {i : Ins} {w : World} (hb : BW W w) (h : InsAt i W.heap.size w) : I9 W i w :=
  ⟨hb, h.2 0 _ rfl, h.2 1 _ rfl, h.2 2 _ rfl, h.2 3 _ rfl, h.2 4 _ rfl, h.2 5 _ rfl, h.2 6 _ rfl, h.2 7 _ rfl, h.2 8 _ rfl⟩
theorem I9.at {W : World} {i : Ins} {w : World} (h : I9 W i w) : BW W w ∧ InsAt i W.heap.size w := by
  obtain ⟨hb, c0, c1, c2, c3, c4, c5, c6, c7, c8⟩ := h
  refine ⟨hb, World.block_lt_of_cell? w _ c0, fun k v hv => ?_⟩
  have hk : k < 9 := (Array.getElem?_eq_some_iff.1 hv).1
  have h9 : k = 0 ∨ k = 1 ∨ k = 2 ∨ k = 3 ∨ k = 4 ∨ k = 5 ∨ k = 6 ∨ k = 7 ∨ k = 8 := by omega
  rcases h9 with rfl | rfl | rfl | rfl | rfl | rfl | rfl | rfl | rfl <;> (cases hv; assumption)
theorem I9.on {W : World} {i : Ins} {w w' : World} (h : I9 W i w) (hb : Below w.heap.size w w') : I9 W i w' := I9.of (h.at.1.on hb) (h.at.2.on hb)
theorem BW.drew {W w : World} (h : BW W w) : BW W w.drew := Below.drew h

section
variable {W : World} (i : Ins) (ho : I64 i.op) (w : World) (h : I9 W i w)
include h
theorem s_alive (C : Cops W) : Calls Tryd.prog 6 #[] w fun e w' => e = .returned (.bool true) ∧ I9 W i w' :=
  (alive_any (C.on h.1) w (Below.refl _ _)).mono fun _ _ ⟨he, hb⟩ => ⟨he, h.on hb⟩
include ho
/-- The call's list of registers, in a world behind. -/
def Got (W : World) (i : Ins) (l : List Int) (e : Ending) (w' : World) : Prop := ∃ A cap, e = .returned (.slice A l.length cap) ∧ Rd w' w'.heap.size A (cellsI l) ∧ I9 W i w'
def Got2 (W : World) (i : Ins) (l : List Int) (A0 : Option Addr) (e : Ending) (w' : World) : Prop := ∃ A cap, e = .returned (.slice A l.length cap) ∧ Rd w' w'.heap.size A (cellsI l) ∧ Rd w' w'.heap.size A0 (cellsI l) ∧ I9 W i w'
theorem s_sources (C : Cops W) : Calls Tryd.prog 9 #[insV i] w (Got W i (srcs i)) :=
  (C.sources i w h.1 ho).mono fun _ _ ⟨A, cap, he, hr, hb⟩ => ⟨A, cap, he, hr, h.on hb⟩
theorem s_rsources {A0 : Option Addr} (hr0 : Rd w w.heap.size A0 (cellsI (srcs i))) : Calls Tryd.prog 10 #[insV i] w (Got2 W i (srcs i) A0) :=
  (rsources_any i ho.1 ho.2 w).mono fun _ _ ⟨A, cap, he, hr, hb⟩ => ⟨A, cap, he, hr, (hr0.below hb).mono hb.size, h.on hb⟩
theorem s_target (C : Cops W) : Calls Tryd.prog 11 #[insV i] w fun e w' => e = .returned (.int .i64 (tgt i)) ∧ I9 W i w' :=
  (C.target i w h.1 ho).mono fun _ _ ⟨he, hb⟩ => ⟨he, h.on hb⟩
theorem s_rtarget : Calls Tryd.prog 12 #[insV i] w fun e w' => e = .returned (.int .i64 (tgt i)) ∧ I9 W i w' :=
  (rtarget_any i ho.1 ho.2 w).mono fun _ _ ⟨he, hb⟩ => ⟨he, h.on hb⟩
omit ho in
theorem s_same {A A' : Option Addr} (cap cap' : Nat) (l : List Int) (hl : l.length ≤ 2) (hr : Rd w w.heap.size A (cellsI l)) (hr' : Rd w w.heap.size A' (cellsI l)) :
    Calls Tryd.prog 8 #[.slice A l.length cap, .slice A' l.length cap'] w fun e w' => e = .returned (.bool true) ∧ I9 W i w' :=
  (sameInts_any A A' cap cap' l l w (by omega) hr hr').mono fun _ _ ⟨he, hb⟩ => ⟨by rw [he]; simp, h.on hb⟩
end
theorem srcs_len (i : Ins) : (srcs i).length ≤ 2 := by
  unfold srcs
  split <;> split <;> simp

set_option maxHeartbeats 2000000 in
theorem registers_law {W : World} (C : Cops W) (i : Ins) (ho : I64 i.op) :
    Calls Tryd.prog 4 #[insV i] W fun e w' => e = .returned (.bool true) ∧ Below W.heap.size W w' := by
  have HS : Hid (I9 W i (W.alloc (.cells (insCells i) 25))) := I9.of ((Below.refl _ _).alloc (Nat.le_refl _) _) (InsAt.new i W _)
  have K1 := fun w (h : I9 W i w) => s_alive i w h C
  have K2 := fun w (h : I9 W i w) => s_sources i ho w h C
  have K3 := fun w (h : I9 W i w) A0 hr => s_rsources (A0 := A0) i ho w h hr
  have K4 := fun w (h : I9 W i w) => s_target i ho w h C
  have K5 := fun w (h : I9 W i w) => s_rtarget i ho w h
  have K6 := fun w (h : I9 W i w) A A' c c' hr hr' => s_same (A := A) (A' := A') i w h c c' (srcs i) (srcs_len i) hr hr'
  unfold insV at K2 K3 K4 K5 ⊢
  unfold insCells at HS
  generalize srcs i = l at *
  generalize tgt i = tv at *
  obtain ⟨op, rd, rs1, rs2, imm, aq, rl, pred, succ⟩ := i
  simp only at K2 K3 K4 K5 HS ho ⊢
  go_enter Tryd.func4, Tryd.ntmps4
  go_wp2_with (first
    | (go_at_call 6; refine (K1 _ HS.out).mono ?_; rintro e w1 ⟨rfl, hb, c0, c1, c2, c3, c4, c5, c6, c7, c8⟩; simp only at c0 c1 c2 c3 c4 c5 c6 c7 c8))
  go_region_held3 (fun w' => BW W w' ∧ w'.cell? ⟨W.heap.size, 0, none⟩ = some (.int .i64 op) ∧ w'.cell? ⟨W.heap.size, 1, none⟩ = some (.int .i64 rd) ∧ w'.cell? ⟨W.heap.size, 2, none⟩ = some (.int .i64 rs1) ∧ w'.cell? ⟨W.heap.size, 3, none⟩ = some (.int .i64 rs2) ∧
      w'.cell? ⟨W.heap.size, 4, none⟩ = some (.int .i64 imm) ∧ w'.cell? ⟨W.heap.size, 5, none⟩ = some (.bool aq) ∧ w'.cell? ⟨W.heap.size, 6, none⟩ = some (.bool rl) ∧ w'.cell? ⟨W.heap.size, 7, none⟩ = some (.int .i64 pred) ∧ w'.cell? ⟨W.heap.size, 8, none⟩ = some (.int .i64 succ))
    (first | (exact ⟨by assumption, by assumption, by assumption, by assumption, by assumption, by assumption, by assumption, by assumption, by assumption, by assumption⟩) | (exact ⟨BW.drew (by assumption), by assumption, by assumption, by assumption, by assumption, by assumption, by assumption, by assumption, by assumption, by assumption⟩) | (refine ⟨?_, ?_, ?_, ?_, ?_, ?_, ?_, ?_, ?_, ?_⟩ <;> go_keep))
    (first
      | (go_at_call 6; refine (K1 _ ?_).mono ?_; (first | assumption | (refine ⟨?_, ?_, ?_, ?_, ?_, ?_, ?_, ?_, ?_, ?_⟩ <;> first | assumption | (simp [*]))); rintro e w' ⟨rfl, hq, c0, c1, c2, c3, c4, c5, c6, c7, c8⟩; simp only at c0 c1 c2 c3 c4 c5 c6 c7 c8)
      | (go_at_call 9; refine (K2 _ ?_).mono ?_; (first | assumption | (refine ⟨?_, ?_, ?_, ?_, ?_, ?_, ?_, ?_, ?_, ?_⟩ <;> first | assumption | (simp [*]))); rintro e w' ⟨A1, cap1, rfl, hR1, hq, c0, c1, c2, c3, c4, c5, c6, c7, c8⟩; simp only at c0 c1 c2 c3 c4 c5 c6 c7 c8)
      | (go_at_call 10; refine (K3 _ ?_ _ (by assumption)).mono ?_; (first | assumption | (refine ⟨?_, ?_, ?_, ?_, ?_, ?_, ?_, ?_, ?_, ?_⟩ <;> first | assumption | (simp [*]))); rintro e w' ⟨A2, cap2, rfl, hR2, hR3, hq, c0, c1, c2, c3, c4, c5, c6, c7, c8⟩; simp only at c0 c1 c2 c3 c4 c5 c6 c7 c8)
      | (go_at_call 8; refine (K6 _ ?_ _ _ _ _ (by assumption) (by assumption)).mono ?_; (first | assumption | (refine ⟨?_, ?_, ?_, ?_, ?_, ?_, ?_, ?_, ?_, ?_⟩ <;> first | assumption | (simp [*]))); rintro e w' ⟨rfl, hq, c0, c1, c2, c3, c4, c5, c6, c7, c8⟩; simp only at c0 c1 c2 c3 c4 c5 c6 c7 c8)
      | (go_at_call 11; refine (K4 _ ?_).mono ?_; (first | assumption | (refine ⟨?_, ?_, ?_, ?_, ?_, ?_, ?_, ?_, ?_, ?_⟩ <;> first | assumption | (simp [*]))); rintro e w' ⟨rfl, hq, c0, c1, c2, c3, c4, c5, c6, c7, c8⟩; simp only at c0 c1 c2 c3 c4 c5 c6 c7 c8)
      | (go_at_call 12; refine (K5 _ ?_).mono ?_; (first | assumption | (refine ⟨?_, ?_, ?_, ?_, ?_, ?_, ?_, ?_, ?_, ?_⟩ <;> first | assumption | (simp [*]))); rintro e w' ⟨rfl, hq, c0, c1, c2, c3, c4, c5, c6, c7, c8⟩; simp only at c0 c1 c2 c3 c4 c5 c6 c7 c8))
  all_goals go_wp2
  all_goals go_ret
  all_goals exact ⟨rfl, by assumption⟩
end Go.Proofs.YtebpoladoimjgaaDoor
