/- Package guess: Next. -/
import Derived.Test.YtdcmpmmbmjaaiaaDoorGe
set_option maxRecDepth 100000
set_option linter.unusedVariables false
namespace Go.Proofs.YtdcmpmmbmjaaiaaDoor
open Go.RowKit

set_option maxHeartbeats 4000000 in
theorem next_c {s : Gst} {g : Nat} {w : World} (h : GAt s g w) (i : Ins) (ho : I64 i.op) (pc : Int) (h0 : 0 ≤ pc) (h1 : pc ≤ 18446744073709551615) (hT : TabL w) : Calls Tryd.prog 7 #[.pointer (some ⟨g, 0, none⟩), insV i, .int .u64 pc] w fun e w' => e = .returned (.int .u64 (nxtG s i pc)) ∧ BW w w' := by
  have HBR := Lib.hid (fun x (hx : BW w x) => branch_c i ho x (hT.below hx))
  have HAS := Lib.hid (fun x => aside_c i pc x)
  have HTA := Lib.hid (fun (g : Nat) (x : World) (hx : GAt s g x) => target_c hx pc h0 h1)
  have HCO := Lib.hid (fun (g : Nat) (x : World) (hx : GAt s g x) => counter_c hx pc h0 h1)
  have HV4 : i.op = 4 → s.b (numG pc) = true → nxtG s i pc = s.t (numG pc) := fun a b => by unfold nxtG; rw [if_pos a, if_pos b]
  have HV4n : i.op = 4 → s.b (numG pc) = false → nxtG s i pc = onG pc := fun a b => by unfold nxtG; rw [if_pos a, if_neg (by rw [b]; decide)]
  have HV3 : i.op = 3 → nxtG s i pc = asdG i pc := fun a => by unfold nxtG; rw [if_neg (by omega), if_pos (.inl a)]
  have HVb : i.op ≠ 4 → srt i.op = 3 → 2 ≤ s.c (numG pc) → nxtG s i pc = asdG i pc := fun a b c => by unfold nxtG; rw [if_neg a, if_pos (.inr ⟨b, c⟩)]
  have HVc : i.op ≠ 4 → i.op ≠ 3 → ¬ 2 ≤ s.c (numG pc) → nxtG s i pc = onG pc := fun a b d => by unfold nxtG; rw [if_neg a, if_neg (by omega)]
  have HVn : i.op ≠ 4 → i.op ≠ 3 → srt i.op ≠ 3 → nxtG s i pc = onG pc := fun a b c => by unfold nxtG; rw [if_neg a, if_neg (by omega)]
  have HON : Hid (onG pc = IntKind.u64.wrap (pc + 4)) := rfl
  clear ho hT h0 h1
  obtain ⟨op, rd, rs1, rs2, imm, aq, rl, pred, succ⟩ := i
  unfold insV at HBR HAS ⊢
  simp only at HBR HAS HV4 HV4n HV3 HVb HVc HVn ⊢
  generalize nxtG s _ pc = nx at *
  generalize asdG _ pc = asd at *
  have HB0 := Lib.hid (BW.new (Below.refl _ w) (.cells #[.int .i64 op, .int .i64 rd, .int .i64 rs1, .int .i64 rs2, .int .i64 imm, .bool aq, .bool rl, .int .i64 pred, .int .i64 succ] 24))
  have HK0 := Lib.hid (Blk.new #[.int .i64 op, .int .i64 rd, .int .i64 rs1, .int .i64 rs2, .int .i64 imm, .bool aq, .bool rl, .int .i64 pred, .int .i64 succ] 24 w)
  have HG0 := Lib.hid (h.on HB0.out)
  clear h
  generalize hbd : s.b (numG pc) = bd at *
  generalize s.t (numG pc) = td at *
  generalize s.c (numG pc) = cd at *
  generalize hsr : srt op = sr at *
  clear hbd hsr
  by_cases h4 : op = 4
  · subst h4
    cases bd with
    | true =>
      have HV := Lib.hid (HV4 rfl rfl)
      clear HV4 HV4n HV3 HVb HVc HVn
      go_enter Tryd.func7, Tryd.ntmps7
      have q0 : World.cell? _ ⟨w.heap.size, 0, none⟩ = some (.int .i64 4) := HK0.out.cell 0
      go_wp2_with (first
          | (go_at_call 12; refine (HTA.out _ _ HG0.out).mono ?_; rintro e w2 ⟨rfl, hb⟩; have HB2 := Lib.hid (HB0.out.on hb); have HK2 := Lib.hid (HK0.out.on hb); have q2 : w2.cell? ⟨w.heap.size, 0, none⟩ = some (.int .i64 4) := HK2.out.cell 0; clear hb))
      go_ret
      exact ⟨ret_int HV.out.symm, HB2.out⟩
    | false =>
      have HV := Lib.hid ((HV4n rfl rfl).trans HON.out)
      clear HV4 HV4n HV3 HVb HVc HVn
      go_enter Tryd.func7, Tryd.ntmps7
      have q0 : World.cell? _ ⟨w.heap.size, 0, none⟩ = some (.int .i64 4) := HK0.out.cell 0
      go_wp2_with (first
          | (go_at_call 12; refine (HTA.out _ _ HG0.out).mono ?_; rintro e w2 ⟨rfl, hb⟩; have HB2 := Lib.hid (HB0.out.on hb); have HK2 := Lib.hid (HK0.out.on hb); have q2 : w2.cell? ⟨w.heap.size, 0, none⟩ = some (.int .i64 4) := HK2.out.cell 0; clear hb))
      go_ret
      exact ⟨ret_int HV.out.symm, HB2.out⟩
  by_cases h3 : op = 3
  · subst h3
    have HV := Lib.hid (HV3 rfl)
    clear HV4 HV4n HV3 HVb HVc HVn
    go_enter Tryd.func7, Tryd.ntmps7
    have q0 : World.cell? _ ⟨w.heap.size, 0, none⟩ = some (.int .i64 3) := HK0.out.cell 0
    go_wp2_with (first
        | (go_at_call 14; refine (HAS.out _).mono ?_; rintro e w4 ⟨rfl, hb⟩; have HB4 := Lib.hid (HB0.out.on hb); clear hb)
        | (with_reducible refine load_blk (o := ⟨some 38, .load _ (.tmp 4), _, _, _, _⟩) rfl 24 (.tmp 4) rfl HK0.out rfl Tryd.underlying24 rfl (by kernel_rfl) ?_))
    go_ret
    exact ⟨ret_int HV.out.symm, HB4.out⟩
  have e4 : (op == 4) = false := by simpa using h4
  have e3 : (op == 3) = false := by simpa using h3
  by_cases hs : sr = 3
  · subst hs
    have hs1 : decide ((3 : Int) = 3) = true := rfl
    rw [hs1] at HBR
    by_cases hc : 2 ≤ cd
    · have HV := Lib.hid (HVb h4 rfl hc)
      clear HV4 HV4n HV3 HVb HVc HVn h4 h3
      go_enter Tryd.func7, Tryd.ntmps7
      have q0 : World.cell? _ ⟨w.heap.size, 0, none⟩ = some (.int .i64 op) := HK0.out.cell 0
      go_wp2_with (first
          | (go_at_call 13; refine (HBR.out _ HB0.out).mono ?_; rintro e w2 ⟨rfl, hb⟩; have HB2 := Lib.hid (HB0.out.on hb); have HK2 := Lib.hid (HK0.out.on hb); have HG2 := Lib.hid (HG0.out.on hb); clear hb)
          | (go_at_call 10; refine (HCO.out _ _ HG2.out).mono ?_; rintro e w3 ⟨rfl, nd, rfl⟩; have HB3 : Hid (BW w (w2.drewN nd)) := below_drewN' HB2.out nd; have HK3 := Lib.hid (HK2.out.on (below_drewN' (Below.refl _ _) nd)))
          | (go_at_call 14; refine (HAS.out _).mono ?_; rintro e w4 ⟨rfl, hb⟩; have HB4 := Lib.hid (HB3.out.on hb); clear hb)
          | (with_reducible refine load_blk (o := ⟨some 30, .load _ (.tmp 4), _, _, _, _⟩) rfl 24 (.tmp 4) rfl HK0.out rfl Tryd.underlying24 rfl (by kernel_rfl) ?_)
          | (with_reducible refine load_blk (o := ⟨some 38, .load _ (.tmp 4), _, _, _, _⟩) rfl 24 (.tmp 4) rfl HK3.out rfl Tryd.underlying24 rfl (by kernel_rfl) ?_))
      go_ret
      exact ⟨ret_int HV.out.symm, HB4.out⟩
    · have HV := Lib.hid ((HVc h4 h3 hc).trans HON.out)
      clear HV4 HV4n HV3 HVb HVc HVn h4 h3
      go_enter Tryd.func7, Tryd.ntmps7
      have q0 : World.cell? _ ⟨w.heap.size, 0, none⟩ = some (.int .i64 op) := HK0.out.cell 0
      go_wp2_with (first
          | (go_at_call 13; refine (HBR.out _ HB0.out).mono ?_; rintro e w2 ⟨rfl, hb⟩; have HB2 := Lib.hid (HB0.out.on hb); have HK2 := Lib.hid (HK0.out.on hb); have HG2 := Lib.hid (HG0.out.on hb); clear hb)
          | (go_at_call 10; refine (HCO.out _ _ HG2.out).mono ?_; rintro e w3 ⟨rfl, nd, rfl⟩; have HB3 : Hid (BW w (w2.drewN nd)) := below_drewN' HB2.out nd; have HK3 := Lib.hid (HK2.out.on (below_drewN' (Below.refl _ _) nd)))
          | (with_reducible refine load_blk (o := ⟨some 30, .load _ (.tmp 4), _, _, _, _⟩) rfl 24 (.tmp 4) rfl HK0.out rfl Tryd.underlying24 rfl (by kernel_rfl) ?_))
      go_ret
      exact ⟨ret_int HV.out.symm, HB3.out⟩
  · have HV := Lib.hid ((HVn h4 h3 hs).trans HON.out)
    have hs1 : decide (sr = 3) = false := by simpa using hs
    rw [hs1] at HBR
    clear HV4 HV4n HV3 HVb HVc HVn h4 h3
    go_enter Tryd.func7, Tryd.ntmps7
    have q0 : World.cell? _ ⟨w.heap.size, 0, none⟩ = some (.int .i64 op) := HK0.out.cell 0
    go_wp2_with (first
        | (go_at_call 13; refine (HBR.out _ HB0.out).mono ?_; rintro e w2 ⟨rfl, hb⟩; have HB2 := Lib.hid (HB0.out.on hb); have HK2 := Lib.hid (HK0.out.on hb); have HG2 := Lib.hid (HG0.out.on hb); clear hb)
        | (with_reducible refine load_blk (o := ⟨some 30, .load _ (.tmp 4), _, _, _, _⟩) rfl 24 (.tmp 4) rfl HK0.out rfl Tryd.underlying24 rfl (by kernel_rfl) ?_))
    go_ret
    exact ⟨ret_int HV.out.symm, HB2.out⟩
set_option maxHeartbeats 4000000 in
theorem next_nil {w : World} (i : Ins) (ho : I64 i.op) (pc : Int) (h0 : 0 ≤ pc) (h1 : pc ≤ 18446744073709551615) (hT : TabL w) : Calls Tryd.prog 7 #[.pointer none, insV i, .int .u64 pc] w fun e w' => e = .returned (.int .u64 (nxtG newG i pc)) ∧ BW w w' := by
  have HBR := Lib.hid (fun x (hx : BW w x) => branch_c i ho x (hT.below hx))
  have HAS := Lib.hid (fun x => aside_c i pc x)
  have HTA := Lib.hid (fun (g : Nat) (x : World) (hx : GAt newG g x) => target_c hx pc h0 h1)
  have HCO := Lib.hid (fun (g : Nat) (x : World) (hx : GAt newG g x) => counter_c hx pc h0 h1)
  have HNW := Lib.hid new_c
  generalize newG = s at *
  have HV4 : i.op = 4 → s.b (numG pc) = true → nxtG s i pc = s.t (numG pc) := fun a b => by unfold nxtG; rw [if_pos a, if_pos b]
  have HV4n : i.op = 4 → s.b (numG pc) = false → nxtG s i pc = onG pc := fun a b => by unfold nxtG; rw [if_pos a, if_neg (by rw [b]; decide)]
  have HV3 : i.op = 3 → nxtG s i pc = asdG i pc := fun a => by unfold nxtG; rw [if_neg (by omega), if_pos (.inl a)]
  have HVb : i.op ≠ 4 → srt i.op = 3 → 2 ≤ s.c (numG pc) → nxtG s i pc = asdG i pc := fun a b c => by unfold nxtG; rw [if_neg a, if_pos (.inr ⟨b, c⟩)]
  have HVc : i.op ≠ 4 → i.op ≠ 3 → ¬ 2 ≤ s.c (numG pc) → nxtG s i pc = onG pc := fun a b d => by unfold nxtG; rw [if_neg a, if_neg (by omega)]
  have HVn : i.op ≠ 4 → i.op ≠ 3 → srt i.op ≠ 3 → nxtG s i pc = onG pc := fun a b c => by unfold nxtG; rw [if_neg a, if_neg (by omega)]
  have HON : Hid (onG pc = IntKind.u64.wrap (pc + 4)) := rfl
  clear ho hT h0 h1
  obtain ⟨op, rd, rs1, rs2, imm, aq, rl, pred, succ⟩ := i
  unfold insV at HBR HAS ⊢
  simp only at HBR HAS HV4 HV4n HV3 HVb HVc HVn ⊢
  generalize nxtG s _ pc = nx at *
  generalize asdG _ pc = asd at *
  have HB0 := Lib.hid (BW.new (Below.refl _ w) (.cells #[.int .i64 op, .int .i64 rd, .int .i64 rs1, .int .i64 rs2, .int .i64 imm, .bool aq, .bool rl, .int .i64 pred, .int .i64 succ] 24))
  have HK0 := Lib.hid (Blk.new #[.int .i64 op, .int .i64 rd, .int .i64 rs1, .int .i64 rs2, .int .i64 imm, .bool aq, .bool rl, .int .i64 pred, .int .i64 succ] 24 w)
  generalize hbd : s.b (numG pc) = bd at *
  generalize s.t (numG pc) = td at *
  generalize s.c (numG pc) = cd at *
  generalize hsr : srt op = sr at *
  clear hbd hsr
  by_cases h4 : op = 4
  · subst h4
    cases bd with
    | true =>
      have HV := Lib.hid (HV4 rfl rfl)
      clear HV4 HV4n HV3 HVb HVc HVn
      go_enter Tryd.func7, Tryd.ntmps7
      go_wp2_with (first
          | (go_at_call 6; refine (HNW.out _).mono ?_; rintro e w1 ⟨g, rfl, hg, hgl, hb⟩; have HB1 := Lib.hid (HB0.out.on hb); have HK1 := Lib.hid (HK0.out.on hb); have HG1 := Lib.hid hg; have q1 : w1.cell? ⟨w.heap.size, 0, none⟩ = some (.int .i64 4) := HK1.out.cell 0; clear hb hg hgl)
          | (go_at_call 12; refine (HTA.out _ _ HG1.out).mono ?_; rintro e w2 ⟨rfl, hb⟩; have HB2 := Lib.hid (HB1.out.on hb); have HK2 := Lib.hid (HK1.out.on hb); have q2 : w2.cell? ⟨w.heap.size, 0, none⟩ = some (.int .i64 4) := HK2.out.cell 0; clear hb))
      go_ret
      exact ⟨ret_int HV.out.symm, HB2.out⟩
    | false =>
      have HV := Lib.hid ((HV4n rfl rfl).trans HON.out)
      clear HV4 HV4n HV3 HVb HVc HVn
      go_enter Tryd.func7, Tryd.ntmps7
      go_wp2_with (first
          | (go_at_call 6; refine (HNW.out _).mono ?_; rintro e w1 ⟨g, rfl, hg, hgl, hb⟩; have HB1 := Lib.hid (HB0.out.on hb); have HK1 := Lib.hid (HK0.out.on hb); have HG1 := Lib.hid hg; have q1 : w1.cell? ⟨w.heap.size, 0, none⟩ = some (.int .i64 4) := HK1.out.cell 0; clear hb hg hgl)
          | (go_at_call 12; refine (HTA.out _ _ HG1.out).mono ?_; rintro e w2 ⟨rfl, hb⟩; have HB2 := Lib.hid (HB1.out.on hb); have HK2 := Lib.hid (HK1.out.on hb); have q2 : w2.cell? ⟨w.heap.size, 0, none⟩ = some (.int .i64 4) := HK2.out.cell 0; clear hb))
      go_ret
      exact ⟨ret_int HV.out.symm, HB2.out⟩
  by_cases h3 : op = 3
  · subst h3
    have HV := Lib.hid (HV3 rfl)
    clear HV4 HV4n HV3 HVb HVc HVn
    go_enter Tryd.func7, Tryd.ntmps7
    go_wp2_with (first
        | (go_at_call 6; refine (HNW.out _).mono ?_; rintro e w1 ⟨g, rfl, hg, hgl, hb⟩; have HB1 := Lib.hid (HB0.out.on hb); have HK1 := Lib.hid (HK0.out.on hb); have HG1 := Lib.hid hg; have q1 : w1.cell? ⟨w.heap.size, 0, none⟩ = some (.int .i64 3) := HK1.out.cell 0; clear hb hg hgl)
        | (go_at_call 14; refine (HAS.out _).mono ?_; rintro e w4 ⟨rfl, hb⟩; have HB4 := Lib.hid (HB1.out.on hb); clear hb)
        | (with_reducible refine load_blk (o := ⟨some 38, .load _ (.tmp 4), _, _, _, _⟩) rfl 24 (.tmp 4) rfl HK1.out rfl Tryd.underlying24 rfl (by kernel_rfl) ?_))
    go_ret
    exact ⟨ret_int HV.out.symm, HB4.out⟩
  have e4 : (op == 4) = false := by simpa using h4
  have e3 : (op == 3) = false := by simpa using h3
  by_cases hs : sr = 3
  · subst hs
    have hs1 : decide ((3 : Int) = 3) = true := rfl
    rw [hs1] at HBR
    by_cases hc : 2 ≤ cd
    · have HV := Lib.hid (HVb h4 rfl hc)
      clear HV4 HV4n HV3 HVb HVc HVn h4 h3
      go_enter Tryd.func7, Tryd.ntmps7
      go_wp2_with (first
          | (go_at_call 6; refine (HNW.out _).mono ?_; rintro e w1 ⟨g, rfl, hg, hgl, hb⟩; have HB1 := Lib.hid (HB0.out.on hb); have HK1 := Lib.hid (HK0.out.on hb); have HG1 := Lib.hid hg; have q1 : w1.cell? ⟨w.heap.size, 0, none⟩ = some (.int .i64 op) := HK1.out.cell 0; clear hb hg hgl)
          | (go_at_call 13; refine (HBR.out _ HB1.out).mono ?_; rintro e w2 ⟨rfl, hb⟩; have HB2 := Lib.hid (HB1.out.on hb); have HK2 := Lib.hid (HK1.out.on hb); have HG2 := Lib.hid (HG1.out.on hb); clear hb)
          | (go_at_call 10; refine (HCO.out _ _ HG2.out).mono ?_; rintro e w3 ⟨rfl, nd, rfl⟩; have HB3 : Hid (BW w (w2.drewN nd)) := below_drewN' HB2.out nd; have HK3 := Lib.hid (HK2.out.on (below_drewN' (Below.refl _ _) nd)))
          | (go_at_call 14; refine (HAS.out _).mono ?_; rintro e w4 ⟨rfl, hb⟩; have HB4 := Lib.hid (HB3.out.on hb); clear hb)
          | (with_reducible refine load_blk (o := ⟨some 30, .load _ (.tmp 4), _, _, _, _⟩) rfl 24 (.tmp 4) rfl HK1.out rfl Tryd.underlying24 rfl (by kernel_rfl) ?_)
          | (with_reducible refine load_blk (o := ⟨some 38, .load _ (.tmp 4), _, _, _, _⟩) rfl 24 (.tmp 4) rfl HK3.out rfl Tryd.underlying24 rfl (by kernel_rfl) ?_))
      go_ret
      exact ⟨ret_int HV.out.symm, HB4.out⟩
    · have HV := Lib.hid ((HVc h4 h3 hc).trans HON.out)
      clear HV4 HV4n HV3 HVb HVc HVn h4 h3
      go_enter Tryd.func7, Tryd.ntmps7
      go_wp2_with (first
          | (go_at_call 6; refine (HNW.out _).mono ?_; rintro e w1 ⟨g, rfl, hg, hgl, hb⟩; have HB1 := Lib.hid (HB0.out.on hb); have HK1 := Lib.hid (HK0.out.on hb); have HG1 := Lib.hid hg; have q1 : w1.cell? ⟨w.heap.size, 0, none⟩ = some (.int .i64 op) := HK1.out.cell 0; clear hb hg hgl)
          | (go_at_call 13; refine (HBR.out _ HB1.out).mono ?_; rintro e w2 ⟨rfl, hb⟩; have HB2 := Lib.hid (HB1.out.on hb); have HK2 := Lib.hid (HK1.out.on hb); have HG2 := Lib.hid (HG1.out.on hb); clear hb)
          | (go_at_call 10; refine (HCO.out _ _ HG2.out).mono ?_; rintro e w3 ⟨rfl, nd, rfl⟩; have HB3 : Hid (BW w (w2.drewN nd)) := below_drewN' HB2.out nd; have HK3 := Lib.hid (HK2.out.on (below_drewN' (Below.refl _ _) nd)))
          | (with_reducible refine load_blk (o := ⟨some 30, .load _ (.tmp 4), _, _, _, _⟩) rfl 24 (.tmp 4) rfl HK1.out rfl Tryd.underlying24 rfl (by kernel_rfl) ?_))
      go_ret
      exact ⟨ret_int HV.out.symm, HB3.out⟩
  · have HV := Lib.hid ((HVn h4 h3 hs).trans HON.out)
    have hs1 : decide (sr = 3) = false := by simpa using hs
    rw [hs1] at HBR
    clear HV4 HV4n HV3 HVb HVc HVn h4 h3
    go_enter Tryd.func7, Tryd.ntmps7
    go_wp2_with (first
        | (go_at_call 6; refine (HNW.out _).mono ?_; rintro e w1 ⟨g, rfl, hg, hgl, hb⟩; have HB1 := Lib.hid (HB0.out.on hb); have HK1 := Lib.hid (HK0.out.on hb); have HG1 := Lib.hid hg; have q1 : w1.cell? ⟨w.heap.size, 0, none⟩ = some (.int .i64 op) := HK1.out.cell 0; clear hb hg hgl)
        | (go_at_call 13; refine (HBR.out _ HB1.out).mono ?_; rintro e w2 ⟨rfl, hb⟩; have HB2 := Lib.hid (HB1.out.on hb); have HK2 := Lib.hid (HK1.out.on hb); have HG2 := Lib.hid (HG1.out.on hb); clear hb)
        | (with_reducible refine load_blk (o := ⟨some 30, .load _ (.tmp 4), _, _, _, _⟩) rfl 24 (.tmp 4) rfl HK1.out rfl Tryd.underlying24 rfl (by kernel_rfl) ?_))
    go_ret
    exact ⟨ret_int HV.out.symm, HB2.out⟩
end Go.Proofs.YtdcmpmmbmjaaiaaDoor
