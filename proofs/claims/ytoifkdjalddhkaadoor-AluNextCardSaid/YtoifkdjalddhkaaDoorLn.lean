/- The law on what comes next, walked over what is asked of package alu. -/
import Derived.Test.YtoifkdjalddhkaaDoorRows
import Derived.Test.YtoifkdjalddhkaaDoorCa
import Derived.Test.YtoifkdjalddhkaaDoorT2
import Derived.WalkKit
import Derived.WalkLawsBesides
import Derived.Deep.QuietTactic
import Derived.BigQuiet
import Derived.WalkSmall
import Derived.WalkSpells
import Derived.Lib.Hide
import Derived.Below
import Derived.LoopTactic
import Derived.Outline
import Derived.Deep.RegionHeld3
import Derived.Deep.DeepCutAuto
namespace Go.Proofs.YtoifkdjalddhkaaDoor
open Go.RowKit

set_option maxHeartbeats 2000000 in
theorem next_law {W : World} (C : Calu W) (i : Ins) (pc a b : Int) (ho : I64 i.op) (hpc : U64 pc) (ha : U64 a) (hb : U64 b) :
    Calls Tryd.prog 4 #[insV i, .int .u64 pc, .int .u64 a, .int .u64 b] W fun e w' => e = .returned (.bool true) ∧ Below W.heap.size W w' := by
  have HP : P1 W W.heap.size i (W.alloc (.cells (insCells i) 23)) := ⟨BW.new (Below.refl _ _) _, Blk.new _ _ W⟩
  have L2 := fun w (h : P1 W W.heap.size i w) => (alive_any (C.on h.1) w (Below.refl _ _)).mono fun e w' (hh : _ ∧ _) => And.intro hh.1 (h.on hh.2)
  have KR := fun k (hk : I64 k.op) g1 g3 w (h : P2 W g1 g3 i k w) => (C.taken k a b w h.bw hk ha hb).mono fun e w' (hh : _ ∧ _) => And.intro hh.1 (And.intro (h.on hh.2) (h.on hh.2).cells)
  have KN := fun k (hk : I64 k.op) g1 g3 w (h : P2 W g1 g3 i k w) => (C.next k pc a b w h.bw hk hpc ha hb).mono fun e w' (hh : _ ∧ _) => And.intro hh.1 (And.intro (h.on hh.2) (h.on hh.2).cells)
  have KM := fun k (hk : I64 k.op) g1 g3 w (h : P2 W g1 g3 i k w) => (rnext_any k pc a b ha hb hk w).mono fun e w' (hh : _ ∧ _) => And.intro hh.1 (And.intro (h.on hh.2) (h.on hh.2).cells)
  have KD := fun k (hk : I64 k.op) g1 g3 w (h : P2 W g1 g3 i k w) => (rtaken_any k a b ha hb hk w).mono fun e w' (hh : _ ∧ _) => And.intro hh.1 (And.intro (h.on hh.2) (h.on hh.2).cells)
  have HO := Lib.hid ho
  clear ho hpc ha hb
  obtain ⟨op, rd, rs1, rs2, imm, aq, rl, pred, succ⟩ := i
  unfold insV
  unfold insCells at HP
  simp only at HP ⊢
  go_enter Tryd.func4, Tryd.ntmps4
  go_upto_region 1 with (fail)
  generalize W.alloc (.cells _ 23) = w1 at *
  obtain ⟨g1, hg1⟩ : ∃ g, W.heap.size = g := ⟨_, rfl⟩
  have HP1 : P1 W g1 ⟨op, rd, rs1, rs2, imm, aq, rl, pred, succ⟩ w1 := by rw [← hg1]; exact HP
  rw [hg1] at L2 ⊢
  clear hg1 HP
  go_wp2_with (first
    | (go_at_call 8; refine (L2 _ HP1).mono ?_; rintro e w2 ⟨rfl, HP2⟩))
  go_loopw [9] (fun v9 wr => P1 W g1 ⟨op, rd, rs1, rs2, imm, aq, rl, pred, succ⟩ wr ∧ ∃ k : Nat, v9 = .int .i64 k ∧ k ≤ 12) (fun v9 _ => (12 - intOf v9).toNat)
  case atStart => exact ⟨HP2, 0, rfl, by omega⟩
  case round =>
    obtain ⟨HPR, k, rfl, hk⟩ := hrel
    obtain ⟨w3, rfl⟩ : ∃ w3 : World, w3 = wr := ⟨_, rfl⟩
    by_cases hlt : k < 12
    · have hltI : (k : Int) < 12 := by omega
      have HB3 := HPR.blk
      simp only [insCells] at HB3
      go_upto_region 7 with (first
        | (with_reducible refine load_blk (o := ⟨some 17, _, _, _, _, _⟩) rfl 23 (.tmp 4) rfl HB3 rfl Tryd.underlying23 rfl (by kernel_rfl) ?_))
      have HQ := HPR.new
      simp only [insCells] at HQ
      generalize w3.alloc (.cells _ 23) = w5 at *
      obtain ⟨g3, hg3⟩ : ∃ g, w3.heap.size = g := ⟨_, rfl⟩
      rw [hg3] at HQ ⊢
      clear hg3 HB3
      by_cases hk0 : k = 0
      · subst hk0
        go_upto_region 9 with (fail)
        have HX : I64 op := HO.out
        obtain ⟨c0, c1, c2, c3, c4, c5, c6, c7, c8⟩ := HQ.cells
        simp only at c0 c1 c2 c3 c4 c5 c6 c7 c8
        have KR2 := KR ⟨op, rd, rs1, rs2, imm, aq, rl, pred, succ⟩ HX g1 g3
        have KD2 := KD ⟨op, rd, rs1, rs2, imm, aq, rl, pred, succ⟩ HX g1 g3
        have KN2 := KN ⟨op, rd, rs1, rs2, imm, aq, rl, pred, succ⟩ HX g1 g3
        have KM2 := KM ⟨op, rd, rs1, rs2, imm, aq, rl, pred, succ⟩ HX g1 g3
        unfold insV N9 at KR2 KD2 KN2 KM2
        simp only at KR2 KD2 KN2 KM2
        generalize takV op a b = tt at *
        generalize nxtV op imm pc a b = rr at *
        clear KR KD KN KM
        go_region_held3 (fun w' => P2 W g1 g3 ⟨op, rd, rs1, rs2, imm, aq, rl, pred, succ⟩ ⟨op, rd, rs1, rs2, imm, aq, rl, pred, succ⟩ w' ∧ w'.cell? ⟨g3, 0, none⟩ = some (.int .i64 op) ∧ w'.cell? ⟨g3, 1, none⟩ = some (.int .i64 rd) ∧ w'.cell? ⟨g3, 2, none⟩ = some (.int .i64 rs1) ∧ w'.cell? ⟨g3, 3, none⟩ = some (.int .i64 rs2) ∧ w'.cell? ⟨g3, 4, none⟩ = some (.int .i64 imm) ∧ w'.cell? ⟨g3, 5, none⟩ = some (.bool aq) ∧ w'.cell? ⟨g3, 6, none⟩ = some (.bool rl) ∧ w'.cell? ⟨g3, 7, none⟩ = some (.int .i64 pred) ∧ w'.cell? ⟨g3, 8, none⟩ = some (.int .i64 succ))
          (first | (exact ⟨by assumption, by assumption, by assumption, by assumption, by assumption, by assumption, by assumption, by assumption, by assumption, by assumption⟩) | (exact ⟨P2.drew (by assumption), by assumption, by assumption, by assumption, by assumption, by assumption, by assumption, by assumption, by assumption, by assumption⟩))
          (first
            | (go_at_call 11; refine (KR2 _ ?_).mono ?_; (first | assumption | exact P2.drew (by assumption)); rintro e w' ⟨rfl, hJ2, b0, b1, b2, b3, b4, b5, b6, b7, b8⟩)
            | (go_at_call 12; refine (KD2 _ ?_).mono ?_; (first | assumption | exact P2.drew (by assumption)); rintro e w' ⟨rfl, hJ2, b0, b1, b2, b3, b4, b5, b6, b7, b8⟩)
            | (go_at_call 13; refine (KN2 _ ?_).mono ?_; (first | assumption | exact P2.drew (by assumption)); rintro e w' ⟨rfl, hJ2, b0, b1, b2, b3, b4, b5, b6, b7, b8⟩)
            | (go_at_call 14; refine (KM2 _ ?_).mono ?_; (first | assumption | exact P2.drew (by assumption)); rintro e w' ⟨rfl, hJ2, b0, b1, b2, b3, b4, b5, b6, b7, b8⟩))
        all_goals go_wp2
        all_goals exact ⟨⟨P2.one (by assumption), 1, rfl, by omega⟩, by simp [intOf]⟩
      · have hk0I : 0 < (k : Int) := by omega
        have f0 := HQ.2.2.1.free 0
        obtain ⟨c0, c1, c2, c3, c4, c5, c6, c7, c8⟩ := HQ.cells
        simp only at c0 c1 c2 c3 c4 c5 c6 c7 c8
        go_upto_region 9 with (fail)
        have HQ := HQ.op (k : Int)
        simp only at HQ
        clear c0 c1 c2 c3 c4 c5 c6 c7 c8 f0
        generalize w5.setCell ⟨g3, 0, none⟩ (.int .i64 (k : Int)) = w6 at *
        have HX : I64 (k : Int) := ⟨by omega, by omega⟩
        obtain ⟨c0, c1, c2, c3, c4, c5, c6, c7, c8⟩ := HQ.cells
        simp only at c0 c1 c2 c3 c4 c5 c6 c7 c8
        have KR2 := KR ⟨(k : Int), rd, rs1, rs2, imm, aq, rl, pred, succ⟩ HX g1 g3
        have KD2 := KD ⟨(k : Int), rd, rs1, rs2, imm, aq, rl, pred, succ⟩ HX g1 g3
        have KN2 := KN ⟨(k : Int), rd, rs1, rs2, imm, aq, rl, pred, succ⟩ HX g1 g3
        have KM2 := KM ⟨(k : Int), rd, rs1, rs2, imm, aq, rl, pred, succ⟩ HX g1 g3
        unfold insV N9 at KR2 KD2 KN2 KM2
        simp only at KR2 KD2 KN2 KM2
        generalize takV (k : Int) a b = tt at *
        generalize nxtV (k : Int) imm pc a b = rr at *
        clear KR KD KN KM
        go_region_held3 (fun w' => P2 W g1 g3 ⟨op, rd, rs1, rs2, imm, aq, rl, pred, succ⟩ ⟨(k : Int), rd, rs1, rs2, imm, aq, rl, pred, succ⟩ w' ∧ w'.cell? ⟨g3, 0, none⟩ = some (.int .i64 (k : Int)) ∧ w'.cell? ⟨g3, 1, none⟩ = some (.int .i64 rd) ∧ w'.cell? ⟨g3, 2, none⟩ = some (.int .i64 rs1) ∧ w'.cell? ⟨g3, 3, none⟩ = some (.int .i64 rs2) ∧ w'.cell? ⟨g3, 4, none⟩ = some (.int .i64 imm) ∧ w'.cell? ⟨g3, 5, none⟩ = some (.bool aq) ∧ w'.cell? ⟨g3, 6, none⟩ = some (.bool rl) ∧ w'.cell? ⟨g3, 7, none⟩ = some (.int .i64 pred) ∧ w'.cell? ⟨g3, 8, none⟩ = some (.int .i64 succ))
          (first | (exact ⟨by assumption, by assumption, by assumption, by assumption, by assumption, by assumption, by assumption, by assumption, by assumption, by assumption⟩) | (exact ⟨P2.drew (by assumption), by assumption, by assumption, by assumption, by assumption, by assumption, by assumption, by assumption, by assumption, by assumption⟩))
          (first
            | (go_at_call 11; refine (KR2 _ ?_).mono ?_; (first | assumption | exact P2.drew (by assumption)); rintro e w' ⟨rfl, hJ2, b0, b1, b2, b3, b4, b5, b6, b7, b8⟩)
            | (go_at_call 12; refine (KD2 _ ?_).mono ?_; (first | assumption | exact P2.drew (by assumption)); rintro e w' ⟨rfl, hJ2, b0, b1, b2, b3, b4, b5, b6, b7, b8⟩)
            | (go_at_call 13; refine (KN2 _ ?_).mono ?_; (first | assumption | exact P2.drew (by assumption)); rintro e w' ⟨rfl, hJ2, b0, b1, b2, b3, b4, b5, b6, b7, b8⟩)
            | (go_at_call 14; refine (KM2 _ ?_).mono ?_; (first | assumption | exact P2.drew (by assumption)); rintro e w' ⟨rfl, hJ2, b0, b1, b2, b3, b4, b5, b6, b7, b8⟩))
        all_goals go_wp2
        all_goals exact ⟨⟨P2.one (by assumption), k + 1, by go_num, by omega⟩, by simp [intOf]; omega⟩
    · obtain rfl : k = 12 := by omega
      go_wp2_with (first
        | (go_at_call 8; refine (L2 _ HPR).mono ?_; rintro e w4 ⟨rfl, HP4⟩))
      go_ret
      exact ⟨rfl, HP4.1⟩
end Go.Proofs.YtoifkdjalddhkaaDoor
