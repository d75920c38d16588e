/- The document's Next, of all that went. -/
import Derived.Test.YtdcmpmmbmjaaiaaDoorGh
set_option maxRecDepth 100000
set_option linter.unusedVariables false
namespace Go.Proofs.YtdcmpmmbmjaaiaaDoor
open Go.RowKit

set_option maxHeartbeats 4000000 in
theorem rnext_c (l : List Wn) (A : Option Addr) (cap : Nat) (hl : l.length ≤ 9223372036854775807) (hw : Wwns l) (i : Ins) (ho : I64 i.op) (pc : Int) (h0 : 0 ≤ pc) (h1 : pc ≤ 18446744073709551615) (w : World) (hr : Rd w w.heap.size A (cellsWn l)) :
    Calls Tryd.prog 8 #[.slice A l.length cap, insV i, .int .u64 pc] w fun e w' => e = .returned (.int .u64 (nxtG (allG l) i pc)) ∧ BW w w' := by
  have HR := Lib.hid hr
  have HW := Lib.hid hw
  have HC := Lib.hid (fun x (hx : BW w x) => rcounter_c l A cap hl hw pc h0 h1 x ((hr.below hx).mono (Below.size hx)))
  have HS := Lib.hid (fun y => rsort_any i.op ho.1 ho.2 y)
  have HLH := Lib.hid (last_hit l (numG pc))
  have HNH := Lib.hid (none_hit l (numG pc))
  have HNI := Lib.hid (fun a => num_iff a pc)
  have HV4 : i.op = 4 → (allG l).b (numG pc) = true → nxtG (allG l) i pc = (allG l).t (numG pc) := fun a b => by unfold nxtG; rw [if_pos a, if_pos b]
  have HV4n : i.op = 4 → (allG l).b (numG pc) = false → nxtG (allG l) i pc = onG pc := fun a b => by unfold nxtG; rw [if_pos a, if_neg (by rw [b]; decide)]
  have HV3 : i.op = 3 → nxtG (allG l) i pc = asdG i pc := fun a => by unfold nxtG; rw [if_neg (by omega), if_pos (.inl a)]
  have HVb : i.op ≠ 4 → srt i.op = 3 → 2 ≤ (allG l).c (numG pc) → nxtG (allG l) i pc = asdG i pc := fun a b c => by unfold nxtG; rw [if_neg a, if_pos (.inr ⟨b, c⟩)]
  have HVc : i.op ≠ 4 → i.op ≠ 3 → ¬ 2 ≤ (allG l).c (numG pc) → nxtG (allG l) i pc = onG pc := fun a b d => by unfold nxtG; rw [if_neg a, if_neg (by omega)]
  have HVn : i.op ≠ 4 → i.op ≠ 3 → srt i.op ≠ 3 → nxtG (allG l) i pc = onG pc := fun a b c => by unfold nxtG; rw [if_neg a, if_neg (by omega)]
  have HON : Hid (onG pc = IntKind.u64.wrap (pc + 4)) := rfl
  have HAS : Hid (asdG i pc = IntKind.u64.wrap (pc + IntKind.u64.wrap i.imm)) := rfl
  have HS4 : i.op = 4 → srt i.op = 2 := fun a => by rw [a]; decide
  have HS3 : i.op = 3 → srt i.op = 2 := fun a => by rw [a]; decide
  clear ho hr hw
  obtain ⟨op, rd, rs1, rs2, imm, aq, rl, pred, succ⟩ := i
  unfold insV
  simp only at HS HV4 HV4n HV3 HVb HVc HVn HAS HS4 HS3 ⊢
  have HB0 := Lib.hid (BW.new (Below.refl _ w) (.cells #[.int .i64 op, .int .i64 rd, .int .i64 rs1, .int .i64 rs2, .int .i64 imm, .bool aq, .bool rl, .int .i64 pred, .int .i64 succ] 24))
  have HK0 := Lib.hid (Blk.new #[.int .i64 op, .int .i64 rd, .int .i64 rs1, .int .i64 rs2, .int .i64 imm, .bool aq, .bool rl, .int .i64 pred, .int .i64 succ] 24 w)
  generalize nxtG (allG l) _ pc = nx at *
  generalize asdG _ pc = asd at *
  generalize (allG l).b (numG pc) = bd at *
  generalize (allG l).t (numG pc) = td at *
  generalize (allG l).c (numG pc) = cd at *
  generalize srt op = sr at *
  by_cases h4 : op = 4
  · have e2 := HS4 h4
    have HV := Lib.hid (HV4 h4)
    have HVN := Lib.hid (HV4n h4)
    subst e2 h4
    clear HV4 HV4n HV3 HVb HVc HVn HS4 HS3 HC HAS
    go_enter Tryd.func8, Tryd.ntmps8
    have q0 : World.cell? _ ⟨w.heap.size, 0, none⟩ = some (.int .i64 4) := HK0.out.cell 0
    go_wp2_with (first
      | (go_at_call 15; refine (HS.out _).mono ?_; rintro e w2 ⟨rfl, hb2⟩; have HB2 := Lib.hid (BW.on HB0.out hb2); have HK2 := Lib.hid (HK0.out.on hb2); have d0 : w2.cell? ⟨w.heap.size, 0, none⟩ = some (.int .i64 4) := HK2.out.cell 0; have d4 : w2.cell? ⟨w.heap.size, 4, none⟩ = some (.int .i64 imm) := HK2.out.cell 4; clear hb2))
    go_loop [8] (fun v => ∃ n : Int, -1 ≤ n ∧ n < (l.length : Int) ∧ v = .int .i64 n ∧ Hid (∀ j (hj : j < l.length), n < (j : Int) → ¬ (l[j].i.op = 4 ∧ numG l[j].pc = numG pc))) (fun v => (intOf v + 1).toNat)
    case atStart => exact ⟨(l.length : Int) - 1, by omega, by omega, by first | rfl | go_num, fun j hj h => by omega⟩
    case round =>
      obtain ⟨n, hn0, hn1, rfl, HNO⟩ := hrel
      by_cases hge : 0 ≤ n
      · obtain ⟨k, rfl⟩ : ∃ k : Nat, n = (k : Int) := ⟨n.toNat, by omega⟩
        have hlt : k < l.length := by omega
        have HNX : Hid (¬ (l[k].i.op = 4 ∧ numG l[k].pc = numG pc) → ∀ j (hj : j < l.length), (k : Int) - 1 < (j : Int) → ¬ (l[j].i.op = 4 ∧ numG l[j].pc = numG pc)) := fun hno j hj hkj => by
          by_cases hjk : j = k
          · subst hjk; exact hno
          · exact HNO.out j hj (by omega)
        have HHIT : Hid ((l[k].i.op = 4 ∧ numG l[k].pc = numG pc) → bd = true ∧ td = l[k].next) := fun h => HLH.out k hlt h (fun j hj hkj => HNO.out j hj (by omega))
        obtain ⟨b, off, rfl, hb, hcs⟩ := rd_wn HR.out hlt
        have HCS := Lib.hid (fun j v hv => (Below.cell HB2.out (p := ⟨b, off + k * 11 + j, none⟩) hb).trans (hcs j v hv))
        have hx := HW.out l[k] (List.getElem_mem hlt)
        clear hcs HNO
        generalize l[k] = x at *
        obtain ⟨ho, hx0, hx1⟩ := hx
        obtain ⟨⟨op, rd, rs1, rs2, im, aq, rl, pred, succ⟩, xp, nxx⟩ := x
        unfold wnCells at HCS
        simp only at HCS HHIT HNX hx0 hx1
        clear ho
        have k0 : w2.cell? ⟨b, off + k * 11, none⟩ = some (.int .i64 op) := HCS.out 0 _ rfl
        have k9 : w2.cell? ⟨b, off + k * 11 + 9, none⟩ = some (.int .u64 xp) := HCS.out 9 _ rfl
        have k10 : w2.cell? ⟨b, off + k * 11 + 10, none⟩ = some (.int .u64 nxx) := HCS.out 10 _ rfl
        have HNI := Lib.hid (HNI.out xp)
        by_cases ho4 : op = 4
        · subst ho4
          by_cases hq : xp / 4 % 16 = pc / 4 % 16
          · have hh := HHIT.out ⟨rfl, HNI.out.2 hq⟩
            have HVV : Hid (nx = nxx) := by show _ = _; rw [HV.out hh.1, hh.2]
            clear hh HHIT HNX
            go_wp2
            go_ret
            exact ⟨ret_int HVV.out.symm, HB2.out⟩
          · have HNO2 := Lib.hid (HNX.out (fun a => hq (HNI.out.1 a.2)))
            clear HHIT HNX
            have eq : (xp / 4 % 16 == pc / 4 % 16) = false := by simpa using hq
            go_wp2
            go_round
            case rel => exact ⟨(k : Int) - 1, by omega, by omega, by first | rfl | go_num, HNO2⟩
            case measure => simp [intOf]
        · have HNO2 := Lib.hid (HNX.out (fun a => ho4 a.1))
          have e4 : (op == 4) = false := by simpa using ho4
          clear HHIT HNX
          go_wp2
          go_round
          case rel => exact ⟨(k : Int) - 1, by omega, by omega, by first | rfl | go_num, HNO2⟩
          case measure => simp [intOf]
      · have HVV := Lib.hid ((HVN.out (HNH.out (fun j hj => HNO.out j hj (by omega)))).trans HON.out)
        obtain rfl : n = -1 := by omega
        clear HNO HVN HV
        go_wp2
        go_ret
        exact ⟨ret_int HVV.out.symm, HB2.out⟩
  by_cases h3 : op = 3
  · have e2 := HS3 h3
    have HV := Lib.hid ((HV3 h3).trans HAS.out)
    subst e2 h3
    clear HV4 HV4n HV3 HVb HVc HVn HS4 HS3 h4
    go_enter Tryd.func8, Tryd.ntmps8
    have q0 : World.cell? _ ⟨w.heap.size, 0, none⟩ = some (.int .i64 3) := HK0.out.cell 0
    go_wp2_with (first
      | (go_at_call 15; refine (HS.out _).mono ?_; rintro e w2 ⟨rfl, hb2⟩; have HB2 := Lib.hid (BW.on HB0.out hb2); have HK2 := Lib.hid (HK0.out.on hb2); have d0 : w2.cell? ⟨w.heap.size, 0, none⟩ = some (.int .i64 3) := HK2.out.cell 0; have d4 : w2.cell? ⟨w.heap.size, 4, none⟩ = some (.int .i64 imm) := HK2.out.cell 4; clear hb2))
    go_ret
    exact ⟨ret_int HV.out.symm, HB2.out⟩
  have e4 : (op == 4) = false := by simpa using h4
  have e3 : (op == 3) = false := by simpa using h3
  by_cases hs : sr = 3
  · subst hs
    by_cases hc : 2 ≤ cd
    · have HV := Lib.hid ((HVb h4 rfl hc).trans HAS.out)
      clear HV4 HV4n HV3 HVb HVc HVn HS4 HS3
      go_enter Tryd.func8, Tryd.ntmps8
      have q0 : World.cell? _ ⟨w.heap.size, 0, none⟩ = some (.int .i64 op) := HK0.out.cell 0
      go_wp2_with (first
        | (go_at_call 15; refine (HS.out _).mono ?_; rintro e w2 ⟨rfl, hb2⟩; have HB2 := Lib.hid (BW.on HB0.out hb2); have HK2 := Lib.hid (HK0.out.on hb2); have d0 : w2.cell? ⟨w.heap.size, 0, none⟩ = some (.int .i64 op) := HK2.out.cell 0; have d4 : w2.cell? ⟨w.heap.size, 4, none⟩ = some (.int .i64 imm) := HK2.out.cell 4; clear hb2)
        | (go_at_call 11; refine (HC.out _ HB2.out).mono ?_; rintro e w3 ⟨rfl, hb3⟩; have HB3 := Lib.hid (BW.on HB2.out hb3); have HK3 := Lib.hid (HK2.out.on hb3); have f0 : w3.cell? ⟨w.heap.size, 0, none⟩ = some (.int .i64 op) := HK3.out.cell 0; have f4 : w3.cell? ⟨w.heap.size, 4, none⟩ = some (.int .i64 imm) := HK3.out.cell 4; clear hb3))
      go_ret
      exact ⟨ret_int HV.out.symm, HB3.out⟩
    · have HV := Lib.hid ((HVc h4 h3 hc).trans HON.out)
      clear HV4 HV4n HV3 HVb HVc HVn HS4 HS3
      go_enter Tryd.func8, Tryd.ntmps8
      have q0 : World.cell? _ ⟨w.heap.size, 0, none⟩ = some (.int .i64 op) := HK0.out.cell 0
      go_wp2_with (first
        | (go_at_call 15; refine (HS.out _).mono ?_; rintro e w2 ⟨rfl, hb2⟩; have HB2 := Lib.hid (BW.on HB0.out hb2); have HK2 := Lib.hid (HK0.out.on hb2); have d0 : w2.cell? ⟨w.heap.size, 0, none⟩ = some (.int .i64 op) := HK2.out.cell 0; have d4 : w2.cell? ⟨w.heap.size, 4, none⟩ = some (.int .i64 imm) := HK2.out.cell 4; clear hb2)
        | (go_at_call 11; refine (HC.out _ HB2.out).mono ?_; rintro e w3 ⟨rfl, hb3⟩; have HB3 := Lib.hid (BW.on HB2.out hb3); have HK3 := Lib.hid (HK2.out.on hb3); have f0 : w3.cell? ⟨w.heap.size, 0, none⟩ = some (.int .i64 op) := HK3.out.cell 0; have f4 : w3.cell? ⟨w.heap.size, 4, none⟩ = some (.int .i64 imm) := HK3.out.cell 4; clear hb3))
      go_ret
      exact ⟨ret_int HV.out.symm, HB3.out⟩
  · have HV := Lib.hid ((HVn h4 h3 hs).trans HON.out)
    have es : (sr == 3) = false := by simpa using hs
    clear HV4 HV4n HV3 HVb HVc HVn HS4 HS3
    go_enter Tryd.func8, Tryd.ntmps8
    have q0 : World.cell? _ ⟨w.heap.size, 0, none⟩ = some (.int .i64 op) := HK0.out.cell 0
    go_wp2_with (first
      | (go_at_call 15; refine (HS.out _).mono ?_; rintro e w2 ⟨rfl, hb2⟩; have HB2 := Lib.hid (BW.on HB0.out hb2); have HK2 := Lib.hid (HK0.out.on hb2); have d0 : w2.cell? ⟨w.heap.size, 0, none⟩ = some (.int .i64 op) := HK2.out.cell 0; have d4 : w2.cell? ⟨w.heap.size, 4, none⟩ = some (.int .i64 imm) := HK2.out.cell 4; clear hb2))
    go_ret
    exact ⟨ret_int HV.out.symm, HB2.out⟩
end Go.Proofs.YtdcmpmmbmjaaiaaDoor
