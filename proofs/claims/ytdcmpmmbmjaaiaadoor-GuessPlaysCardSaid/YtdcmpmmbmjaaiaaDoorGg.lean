/- Package guess: Train. -/
import Derived.Test.YtdcmpmmbmjaaiaaDoorGf
set_option maxRecDepth 100000
set_option linter.unusedVariables false
namespace Go.Proofs.YtdcmpmmbmjaaiaaDoor
open Go.RowKit

theorem train_nil (i : Ins) (pc next : Int) (w : World) : Calls Tryd.prog 9 #[.pointer none, insV i, .int .u64 pc, .int .u64 next] w fun e w' => e = .returned (.tuple #[]) ∧ BW w w' := by
  obtain ⟨op, rd, rs1, rs2, imm, aq, rl, pred, succ⟩ := i
  have HB0 := Lib.hid (BW.new (Below.refl _ w) (.cells #[.int .i64 op, .int .i64 rd, .int .i64 rs1, .int .i64 rs2, .int .i64 imm, .bool aq, .bool rl, .int .i64 pred, .int .i64 succ] 24))
  unfold insV
  simp only
  go_enter Tryd.func9, Tryd.ntmps9
  go_wp2
  refine bodyPost_ret (results_none rfl _ _ _) rfl ?_
  exact ⟨rfl, HB0.out⟩
set_option maxHeartbeats 4000000 in
theorem train_c {s : Gst} {g : Nat} {w : World} (h : GAt s g w) (ok : GOk s) (x : Wn) (ho : I64 x.i.op) (h0 : 0 ≤ x.pc) (h1 : x.pc ≤ 18446744073709551615) (hT : TabL w) : Calls Tryd.prog 9 #[.pointer (some ⟨g, 0, none⟩), insV x.i, .int .u64 x.pc, .int .u64 x.next] w fun e w' => e = .returned (.tuple #[]) ∧ GAt (trG s x) g w' ∧ Fr [g] w w' := by
  have HBR := Lib.hid (fun y (hx : BW w y) => branch_c x.i ho y (hT.below hx))
  have HAS := Lib.hid (fun y => aside_c x.i x.pc y)
  have HWE := Lib.hid (fun (y : World) (hx : GAt s g y) => went_c hx x.pc x.next h0 h1)
  have HCO := Lib.hid (fun (up : Bool) (y : World) (hx : GAt s g y) => count_c hx ok x.pc h0 h1 up)
  have HV4 : x.i.op = 4 → trG s x = wentG s x.pc x.next := fun a => by unfold trG; rw [if_pos a]
  have HVc : x.i.op ≠ 4 → srt x.i.op = 3 → x.i.imm ≠ 4 → trG s x = countG s x.pc (decide (x.next = asdG x.i x.pc)) := fun a b c => by unfold trG; rw [if_neg a, if_pos ⟨b, c⟩]
  have HVn : x.i.op ≠ 4 → ¬ (srt x.i.op = 3 ∧ x.i.imm ≠ 4) → trG s x = s := fun a b => by unfold trG; rw [if_neg a, if_neg b]
  clear ok ho hT h0 h1
  generalize trG s x = tr at *
  obtain ⟨i, pc, next⟩ := x
  simp only at HBR HAS HWE HCO HV4 HVc HVn ⊢
  generalize asdG i pc = asd at *
  obtain ⟨op, rd, rs1, rs2, imm, aq, rl, pred, succ⟩ := i
  unfold insV at HBR HAS ⊢
  simp only at HBR HAS HV4 HVc HVn ⊢
  have HB0 := Lib.hid (BW.new (Below.refl _ w) (.cells #[.int .i64 op, .int .i64 rd, .int .i64 rs1, .int .i64 rs2, .int .i64 imm, .bool aq, .bool rl, .int .i64 pred, .int .i64 succ] 24))
  have HK0 := Lib.hid (Blk.new #[.int .i64 op, .int .i64 rd, .int .i64 rs1, .int .i64 rs2, .int .i64 imm, .bool aq, .bool rl, .int .i64 pred, .int .i64 succ] 24 w)
  have HG0 := Lib.hid (h.on HB0.out)
  clear h
  generalize srt op = sr at *
  by_cases h4 : op = 4
  · have HV := Lib.hid (HV4 h4)
    subst h4
    clear HV4 HVc HVn
    go_enter Tryd.func9, Tryd.ntmps9
    have q0 : World.cell? _ ⟨w.heap.size, 0, none⟩ = some (.int .i64 4) := HK0.out.cell 0
    have q4 : World.cell? _ ⟨w.heap.size, 4, none⟩ = some (.int .i64 imm) := HK0.out.cell 4
    go_wp2_with (first
        | (go_at_call 16; refine (HWE.out _ HG0.out).mono ?_; rintro e w2 ⟨rfl, hg, hf⟩))
    go_end0
    exact ⟨rfl, by rw [HV.out]; exact hg, (Fr.of [g] HB0.out).trans hf (fun i hi => .inl hi)⟩
  have e4 : (op == 4) = false := by simpa using h4
  by_cases hs : sr = 3
  · subst hs
    have hs1 : decide ((3 : Int) = 3) = true := rfl
    rw [hs1] at HBR
    by_cases hi : imm = 4
    · have HV := Lib.hid (HVn h4 (fun a => a.2 hi))
      subst hi
      clear HV4 HVc HVn h4
      go_enter Tryd.func9, Tryd.ntmps9
      have q0 : World.cell? _ ⟨w.heap.size, 0, none⟩ = some (.int .i64 op) := HK0.out.cell 0
      have q4 : World.cell? _ ⟨w.heap.size, 4, none⟩ = some (.int .i64 4) := HK0.out.cell 4
      go_wp2_with (first
          | (go_at_call 13; refine (HBR.out _ HB0.out).mono ?_; rintro e w2 ⟨rfl, hb⟩; have HB2 := Lib.hid (HB0.out.on hb); have HK2 := Lib.hid (HK0.out.on hb); have HG2 := Lib.hid (HG0.out.on hb); have q24 : w2.cell? ⟨w.heap.size, 4, none⟩ = some (.int .i64 4) := HK2.out.cell 4; clear hb)
          | (with_reducible refine load_blk (o := ⟨some 21, .load _ (.tmp 5), _, _, _, _⟩) rfl 24 (.tmp 5) rfl HK0.out rfl Tryd.underlying24 rfl (by kernel_rfl) ?_))
      go_end0
      exact ⟨rfl, by rw [HV.out]; exact HG2.out, Fr.of [g] HB2.out⟩
    · have HV := Lib.hid (HVc h4 rfl hi)
      have ei : (imm == 4) = false := by simpa using hi
      have ei2 : (imm != 4) = true := by simpa using hi
      have EQ : ∀ b : Bool, (next == asd) = b → decide (next = asd) = b := fun b hb => by rw [← hb, Bool.eq_iff_iff]; simp
      cases hq : (next == asd) with
      | true =>
        have HV2 := HV.out
        rw [EQ _ hq] at HV2
        have HV3 := Lib.hid HV2
        clear HV4 HVc HVn h4 HV HV2 EQ
        obtain rfl : next = asd := by simpa using hq
        clear hq
        go_enter Tryd.func9, Tryd.ntmps9
        have q0 : World.cell? _ ⟨w.heap.size, 0, none⟩ = some (.int .i64 op) := HK0.out.cell 0
        have q4 : World.cell? _ ⟨w.heap.size, 4, none⟩ = some (.int .i64 imm) := HK0.out.cell 4
        go_wp2_with (first
            | (go_at_call 13; refine (HBR.out _ HB0.out).mono ?_; rintro e w2 ⟨rfl, hb⟩; have HB2 := Lib.hid (HB0.out.on hb); have HK2 := Lib.hid (HK0.out.on hb); have HG2 := Lib.hid (HG0.out.on hb); have q24 : w2.cell? ⟨w.heap.size, 4, none⟩ = some (.int .i64 imm) := HK2.out.cell 4; clear hb)
            | (go_at_call 14; refine (HAS.out _).mono ?_; rintro e w3 ⟨rfl, hb⟩; have HB3 := Lib.hid (BW.on HB2.out hb); have HG3 := Lib.hid (HG2.out.on hb); clear hb)
            | (go_at_call 17; refine (HCO.out _ _ HG3.out).mono ?_; rintro e w4 ⟨rfl, hg, hf⟩)
            | (with_reducible refine load_blk (o := ⟨some 21, .load _ (.tmp 5), _, _, _, _⟩) rfl 24 (.tmp 5) rfl HK0.out rfl Tryd.underlying24 rfl (by kernel_rfl) ?_)
            | (with_reducible refine load_blk (o := ⟨some 31, .load _ (.tmp 5), _, _, _, _⟩) rfl 24 (.tmp 5) rfl HK2.out rfl Tryd.underlying24 rfl (by kernel_rfl) ?_))
        go_end0
        exact ⟨rfl, by rw [HV3.out]; exact hg, (Fr.of [g] HB3.out).trans hf (fun i hi => .inl hi)⟩
      | false =>
        have HV2 := HV.out
        rw [EQ _ hq] at HV2
        have HV3 := Lib.hid HV2
        clear HV4 HVc HVn h4 HV HV2 EQ
        go_enter Tryd.func9, Tryd.ntmps9
        have q0 : World.cell? _ ⟨w.heap.size, 0, none⟩ = some (.int .i64 op) := HK0.out.cell 0
        have q4 : World.cell? _ ⟨w.heap.size, 4, none⟩ = some (.int .i64 imm) := HK0.out.cell 4
        go_wp2_with (first
            | (go_at_call 13; refine (HBR.out _ HB0.out).mono ?_; rintro e w2 ⟨rfl, hb⟩; have HB2 := Lib.hid (HB0.out.on hb); have HK2 := Lib.hid (HK0.out.on hb); have HG2 := Lib.hid (HG0.out.on hb); have q24 : w2.cell? ⟨w.heap.size, 4, none⟩ = some (.int .i64 imm) := HK2.out.cell 4; clear hb)
            | (go_at_call 14; refine (HAS.out _).mono ?_; rintro e w3 ⟨rfl, hb⟩; have HB3 := Lib.hid (BW.on HB2.out hb); have HG3 := Lib.hid (HG2.out.on hb); clear hb)
            | (go_at_call 17; refine (HCO.out _ _ HG3.out).mono ?_; rintro e w4 ⟨rfl, hg, hf⟩)
            | (with_reducible refine load_blk (o := ⟨some 21, .load _ (.tmp 5), _, _, _, _⟩) rfl 24 (.tmp 5) rfl HK0.out rfl Tryd.underlying24 rfl (by kernel_rfl) ?_)
            | (with_reducible refine load_blk (o := ⟨some 31, .load _ (.tmp 5), _, _, _, _⟩) rfl 24 (.tmp 5) rfl HK2.out rfl Tryd.underlying24 rfl (by kernel_rfl) ?_))
        go_end0
        exact ⟨rfl, by rw [HV3.out]; exact hg, (Fr.of [g] HB3.out).trans hf (fun i hi => .inl hi)⟩
  · have HV := Lib.hid (HVn h4 (fun a => hs a.1))
    have hs1 : decide (sr = 3) = false := by simpa using hs
    rw [hs1] at HBR
    clear HV4 HVc HVn h4
    go_enter Tryd.func9, Tryd.ntmps9
    have q0 : World.cell? _ ⟨w.heap.size, 0, none⟩ = some (.int .i64 op) := HK0.out.cell 0
    have q4 : World.cell? _ ⟨w.heap.size, 4, none⟩ = some (.int .i64 imm) := HK0.out.cell 4
    go_wp2_with (first
        | (go_at_call 13; refine (HBR.out _ HB0.out).mono ?_; rintro e w2 ⟨rfl, hb⟩; have HB2 := Lib.hid (HB0.out.on hb); have HK2 := Lib.hid (HK0.out.on hb); have HG2 := Lib.hid (HG0.out.on hb); have q24 : w2.cell? ⟨w.heap.size, 4, none⟩ = some (.int .i64 imm) := HK2.out.cell 4; clear hb)
        | (with_reducible refine load_blk (o := ⟨some 21, .load _ (.tmp 5), _, _, _, _⟩) rfl 24 (.tmp 5) rfl HK0.out rfl Tryd.underlying24 rfl (by kernel_rfl) ?_))
    go_end0
    exact ⟨rfl, by rw [HV.out]; exact HG2.out, Fr.of [g] HB2.out⟩
end Go.Proofs.YtdcmpmmbmjaaiaaDoor
