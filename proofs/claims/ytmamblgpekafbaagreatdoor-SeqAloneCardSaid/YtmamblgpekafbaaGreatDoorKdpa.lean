/- Of stage 11. -/
import Derived.Test.YtmamblgpekafbaaGreatDoorRrpa
set_option maxRecDepth 100000
namespace Go.Proofs.YtmamblgpekafbaaGreatDoor
open Go.RowKit
theorem Zc4 (i : Ins) (a : Int) (ho : I64 i.op) (w : World) (T : TabL w) : Calls Tryz.prog 29 #[insV i, .int .u64 a] w fun e w' => e = .returned (.int .u64 (adrV i.op i.imm a)) ∧ Below w.heap.size w w' := by
  have HJ : Jn w i w.heap.size (w.alloc (.cells (za0 i) 39)) := ⟨BW.new (Below.refl _ _) _, Blk.new _ _ _, Nat.le_refl _⟩
  have HTL := T.below HJ.1
  have KS := fun x (h : TabL x) => zh2 i.op ho x h
  have hr := zj9 i.op
  have hv : adrV i.op i.imm a = if srt i.op = 4 ∨ srt i.op = 5 then IntKind.u64.wrap (a + IntKind.u64.wrap i.imm) else if 10 ≤ srt i.op then a else 0 := by rw [IntKind.wrap_u64 (a + _)]; rfl
  clear ho T
  obtain ⟨op, rd, rs1, rs2, imm, aq, rl, pred, succ⟩ := i
  unfold insV
  unfold za0 at HJ HTL
  simp only at KS hv hr HJ HTL ⊢
  obtain ⟨c0, c1, c2, c3, c4, c5, c6, c7, c8⟩ := HJ.cells
  simp only at c0 c1 c2 c3 c4 c5 c6 c7 c8
  clear c1 c2 c3 c5 c6 c7 c8
  have HB := Lib.hid HJ.1
  clear HJ
  generalize srt op = k at *
  have hc : k = 4 ∨ k = 5 ∨ k = 10 ∨ k = 11 ∨ k = 12 ∨ (k ≠ 4 ∧ k ≠ 5 ∧ k < 10) := by omega
  clear hr
  rcases hc with rfl | rfl | rfl | rfl | rfl | ⟨k4, k5, k9⟩
  case' inr.inr.inr.inr.inr =>
    have b4 : (k == 4) = false := by simpa using k4
    have b5 : (k == 5) = false := by simpa using k5
    have b10 : (k == 10) = false := by simp; omega
    have b11 : (k == 11) = false := by simp; omega
    have b12 : (k == 12) = false := by simp; omega
    rw [if_neg (by omega), if_neg (by omega)] at hv
    clear k4 k5 k9
  all_goals
    have HV := Lib.hid hv
    clear hv
    go_enter Tryz.func29, Tryz.ntmps29
    go_wp2_with (first | (go_at_call 15; refine (KS _ HTL).mono ?_; rintro e w2 ⟨rfl, rfl⟩))
    go_ret
    exact ⟨za1 (by rw [HV.out]; first | done | (simp; done)), HB.out⟩
theorem loa_way (op : Int) : (srt op = 4 ∧ 15 ≤ op ∧ op ≤ 17) ∨ (srt op = 4 ∧ op < 15) ∨ (srt op = 10 ∧ ¬ (15 ≤ op ∧ op ≤ 17)) ∨ (srt op = 12 ∧ ¬ (15 ≤ op ∧ op ≤ 17)) ∨ (srt op ≠ 4 ∧ srt op ≠ 10 ∧ srt op ≠ 12) := by
  have hs := zd0 op
  generalize srt op = k at *
  by_cases h4 : k = 4
  · by_cases h : 15 ≤ op
    · exact .inl ⟨h4, by omega⟩
    · exact .inr (.inl ⟨h4, by omega⟩)
  by_cases h10 : k = 10
  · exact .inr (.inr (.inl ⟨h10, by omega⟩))
  by_cases h12 : k = 12
  · exact .inr (.inr (.inr (.inl ⟨h12, by omega⟩)))
  · exact .inr (.inr (.inr (.inr ⟨h4, h10, h12⟩)))
theorem loaded_c (op raw : Int) (ho : I64 op) (hu : U64 raw) (w : World) (T : TabL w) : Calls Tryz.prog 61 #[.int .i64 op, .int .u64 raw] w fun e w' => e = .returned (.int .u64 (loaV op raw)) ∧ w = w' := by
  have KS := zh2 op ho w T
  have KG := zm5 op ho w T
  have hz := (zg0 op).2
  have KZ := fun x => zo7 raw (8 * siz op) hu.1 hu.lt x
  have KX := fun x => zi8 raw (8 * siz op) hu.1 hu.lt x
  have hv : loaV op raw = if srt op = 4 ∨ srt op = 10 ∨ srt op = 12 then (if 15 ≤ op ∧ op ≤ 17 then zx raw (zc6 (8 * siz op)) else sx raw (zc6 (8 * siz op))) else 0 := by rw [(zg0 op).1]; rfl
  have hw := loa_way op
  generalize loaV op raw = r at *
  generalize zx raw (zc6 (8 * siz op)) = v at *
  generalize sx raw (zc6 (8 * siz op)) = u at *
  generalize siz op = z at *
  have e8 : wrap64 (8 * z) = 8 * z := by rw [ze2, IntKind.wrap_i64]; omega
  generalize srt op = k at *
  clear ho hu T
  rcases hw with ⟨rfl, h1, h2⟩ | ⟨rfl, h⟩ | ⟨rfl, h⟩ | ⟨rfl, h⟩ | ⟨k4, k10, k12⟩
  case' inl => rw [if_pos (by decide), if_pos ⟨h1, h2⟩] at hv
  case' inr.inl => rw [if_pos (by decide), if_neg (by omega)] at hv
  case' inr.inr.inl => rw [if_pos (by decide), if_neg h] at hv; clear h
  case' inr.inr.inr.inl => rw [if_pos (by decide), if_neg h] at hv; clear h
  case' inr.inr.inr.inr =>
    have b4 : (k == 4) = false := by simpa using k4
    have b10 : (k == 10) = false := by simpa using k10
    have b12 : (k == 12) = false := by simpa using k12
    rw [if_neg (by omega)] at hv
    clear k4 k10 k12
  all_goals
    have HV := Lib.hid hv
    clear hv
    go_enter Tryz.func61, Tryz.ntmps61
    go_wp2_with (first
      | (go_at_call 15; refine KS.mono ?_; rintro e w2 ⟨rfl, rfl⟩)
      | (go_at_call 31; refine KG.mono ?_; rintro e w2 ⟨rfl, rfl⟩)
      | (go_at_call 33; refine (KZ _).mono ?_; rintro e w2 ⟨rfl, rfl⟩)
      | (go_at_call 58; refine (KX _).mono ?_; rintro e w2 ⟨rfl, rfl⟩))
    go_ret
    exact ⟨za1 HV.out.symm, rfl⟩
theorem stored_c (op old b : Int) (ho : I64 op) (ha : U64 old) (hb : U64 b) (w : World) (T : TabL w) : Calls Tryz.prog 35 #[.int .i64 op, .int .u64 old, .int .u64 b] w fun e w' => e = .returned (.int .u64 (stoV op old b)) ∧ w = w' := by
  have KS := zh2 op ho w T
  have KG := zm5 op ho w T
  have hz := (zg0 op).2
  have hw : (srt op = 5 ∨ srt op = 11) ∨ srt op = 12 ∨ (srt op ≠ 5 ∧ srt op ≠ 11 ∧ srt op ≠ 12) := by omega
  rcases hw with h | h | h
  · have KZ := fun x => zo7 b (8 * siz op) hb.1 hb.lt x
    have hv := zS5 (op := op) (old := old) (b := b) h
    rw [← (zg0 op).1] at hv
    have HV := Lib.hid hv
    clear hv ho ha hb T
    generalize stoV op old b = r at *
    generalize zx b (zc6 (8 * siz op)) = v at *
    generalize siz op = z at *
    have e8 : wrap64 (8 * z) = 8 * z := by rw [ze2, IntKind.wrap_i64]; omega
    generalize srt op = k at *
    rcases h with rfl | rfl
    all_goals
      go_enter Tryz.func35, Tryz.ntmps35
      go_wp2_with (first
        | (go_at_call 15; refine KS.mono ?_; rintro e w2 ⟨rfl, rfl⟩)
        | (go_at_call 31; refine KG.mono ?_; rintro e w2 ⟨rfl, rfl⟩)
        | (go_at_call 33; refine (KZ _).mono ?_; rintro e w2 ⟨rfl, rfl⟩))
      go_ret
      exact ⟨za1 HV.out.symm, rfl⟩
  · have hn : (8 * siz op).toNat = 32 ∨ (8 * siz op).toNat = 64 := by rw [zT3 h]; split <;> decide
    have hop : 58 ≤ op ∧ op ≤ 75 := by have := zd0 op; omega
    have hv := zN6 (op := op) (old := old) (b := b) h
    rw [← chg_amo ((op - 58) % 9) old b (by omega) hn] at hv
    have K1 := fun x => zi8 old (8 * siz op) ha.1 ha.lt x
    have K2 := fun x => zi8 b (8 * siz op) hb.1 hb.lt x
    rw [(zg0 op).1] at K1 K2
    have hle : (8 * siz op).toNat ≤ 64 := by omega
    have s1 := zm4 old (8 * siz op).toNat hle
    have s2 := zm4 b (8 * siz op).toNat hle
    have KC := fun x => Zi2 op (sx old (8 * siz op).toNat) (sx b (8 * siz op).toNat) hop s1 s2 x
    have hcU : U64 (chgV ((op - 58) % 9) (sx old (8 * siz op).toNat) (sx b (8 * siz op).toNat)) := chg_U s1 s2
    have KZ := fun x => zo7 (chgV ((op - 58) % 9) (sx old (8 * siz op).toNat) (sx b (8 * siz op).toNat)) (8 * siz op) hcU.1 hcU.lt x
    rw [(zg0 op).1] at KZ
    have HV := Lib.hid hv
    clear hv ho ha hb T hn hle s1 s2 hcU hop
    generalize stoV op old b = r at *
    generalize chgV ((op - 58) % 9) (sx old (8 * siz op).toNat) (sx b (8 * siz op).toNat) = c at *
    generalize zx c (8 * siz op).toNat = v at *
    generalize sx old (8 * siz op).toNat = u1 at *
    generalize sx b (8 * siz op).toNat = u2 at *
    generalize siz op = z at *
    have e8 : wrap64 (8 * z) = 8 * z := by rw [ze2, IntKind.wrap_i64]; omega
    generalize srt op = k at *
    subst h
    go_enter Tryz.func35, Tryz.ntmps35
    go_wp2_with (first
      | (go_at_call 15; refine KS.mono ?_; rintro e w2 ⟨rfl, rfl⟩)
      | (go_at_call 31; refine KG.mono ?_; rintro e w2 ⟨rfl, rfl⟩)
      | (go_at_call 58; ((with_reducible refine (K1 _).mono ?_); rintro e w2 ⟨rfl, rfl⟩))
      | (go_at_call 58; ((with_reducible refine (K2 _).mono ?_); rintro e w2 ⟨rfl, rfl⟩))
      | (go_at_call 57; refine (KC _).mono ?_; rintro e w2 ⟨rfl, rfl⟩)
      | (go_at_call 33; refine (KZ _).mono ?_; rintro e w2 ⟨rfl, rfl⟩))
    go_ret
    exact ⟨za1 HV.out.symm, rfl⟩
  · have HV := Lib.hid (zU7 (op := op) (old := old) (b := b) h)
    clear ho ha hb T
    generalize stoV op old b = r at *
    generalize siz op = z at *
    have e8 : wrap64 (8 * z) = 8 * z := by rw [ze2, IntKind.wrap_i64]; omega
    generalize srt op = k at *
    obtain ⟨k5, k11, k12⟩ := h
    have b5 : (k == 5) = false := by simpa using k5
    have b11 : (k == 11) = false := by simpa using k11
    have b12 : (k == 12) = false := by simpa using k12
    clear k5 k11 k12
    go_enter Tryz.func35, Tryz.ntmps35
    go_wp2_with (first
      | (go_at_call 15; refine KS.mono ?_; rintro e w2 ⟨rfl, rfl⟩)
      | (go_at_call 31; refine KG.mono ?_; rintro e w2 ⟨rfl, rfl⟩))
    go_ret
    exact ⟨za1 HV.out.symm, rfl⟩
end Go.Proofs.YtmamblgpekafbaaGreatDoor
namespace Go.Proofs.YtmamblgpekafbaaGreatDoor
open Go.RowKit
theorem zQ9 (i : Ins) (ho : I64 i.op) (w : World) (hT : TabL w) :
    Calls Tryz.prog 36 #[insV i] w fun e w' => e = .returned (.int .i64 (tgt i)) ∧ Below w.heap.size w w' := by
  have HI := Lib.hid (InsAt.new i w 39)
  have HB : Hid (Below w.heap.size w (w.alloc (.cells (za0 i) 39))) := (Below.refl _ _).alloc (Nat.le_refl _) _
  have HW := writes_c i.op ho _ (hT.below HB.out)
  have HR := fun w => zt8 i.rd w
  unfold insV
  unfold za0 at HI HB HW
  clear hT
  cases hw : wrB i.op
  · have HV : Hid (tgt i = 0) := by show _ = _; unfold tgt; rw [hw]; rfl
    rw [hw] at HW
    clear hw
    obtain ⟨op, rd, rs1, rs2, imm, aq, rl, pred, succ⟩ := i
    simp only at HW HR ⊢
    go_enter Tryz.func36, Tryz.ntmps36
    go_wp2_with (first
      | (go_at_call 59; refine HW.mono ?_; rintro e w1 ⟨rfl, rfl⟩))
    go_ret
    exact ⟨za1 HV.out.symm, HB.out⟩
  · have HV : Hid (tgt i = regV i.rd) := by show _ = _; unfold tgt; rw [hw]; rfl
    rw [hw] at HW
    clear hw
    obtain ⟨op, rd, rs1, rs2, imm, aq, rl, pred, succ⟩ := i
    simp only at HW HR HV ⊢
    go_enter Tryz.func36, Tryz.ntmps36
    go_wp2_with (first
      | (go_at_call 59; refine HW.mono ?_; rintro e w1 ⟨rfl, rfl⟩)
      | (go_at_call 60; refine (HR _).mono ?_; rintro e w1 ⟨rfl, rfl⟩))
    go_ret
    exact ⟨za1 HV.out.symm, HB.out⟩
theorem reg_yes {r : Int} (h : 1 ≤ r ∧ r ≤ 31) : regV r = r := if_pos (by omega)
theorem reg_no {r : Int} (h : ¬ (1 ≤ r ∧ r ≤ 31)) : regV r = 0 := by
  unfold regV
  split <;> omega
theorem srcs_of (i : Ins) (a b : List Int) (h1 : (if firB i.op && decide (1 ≤ i.rs1 ∧ i.rs1 ≤ 31) then [i.rs1] else []) = a) (h2 : (if secB i.op && decide (1 ≤ i.rs2 ∧ i.rs2 ≤ 31) then [i.rs2] else []) = b) : srcs i = a ++ b := by
  unfold srcs; rw [h1, h2]
def Part (f : Bool) (r x : Int) (l : List Int) : Prop := (x = 0 ∧ l = []) ∨ (f = false ∧ x = r ∧ 1 ≤ r ∧ l = []) ∨ (f = true ∧ x = r ∧ 1 ≤ r ∧ l = [r])
theorem Zq3 (f : Bool) (r : Int) : Part f r (regV r) (if f && decide (1 ≤ r ∧ r ≤ 31) then [r] else []) := by
  by_cases h : 1 ≤ r ∧ r ≤ 31
  · rw [reg_yes h, decide_eq_true h]
    cases f
    · exact .inr (.inl ⟨rfl, rfl, h.1, rfl⟩)
    · exact .inr (.inr ⟨rfl, rfl, h.1, rfl⟩)
  · rw [reg_no h, decide_eq_false h]
    exact .inl ⟨rfl, by cases f <;> rfl⟩
set_option maxHeartbeats 4000000 in
theorem Zm2 (i : Ins) (ho : I64 i.op) (w : World) (hT : TabL w) : Calls Tryz.prog 146 #[insV i] w (RetN w (srcs i)) := by
  obtain ⟨i0, hi, hz0, hz1, hz2⟩ := info_parts info_int
  have HI := Lib.hid (InsAt.new i w 39)
  have HB : Hid (Below w.heap.size w (w.alloc (.cells (za0 i) 39))) := (Below.refl _ _).alloc (Nat.le_refl _) _
  have HF := first_c i.op ho _ (hT.below HB.out)
  have HS := fun w' (hb : Below w.heap.size w w') => second_c i.op ho w' (hT.below hb)
  have HR1 := fun w => zt8 i.rs1 w
  have HR2 := fun w => zt8 i.rs2 w
  have P1 := Zq3 (firB i.op) i.rs1
  have P2 := Zq3 (secB i.op) i.rs2
  have HV := Lib.hid (srcs_of i)
  unfold insV
  unfold za0 at HI HB HF
  generalize srcs i = sl at *
  generalize (if firB i.op && decide (1 ≤ i.rs1 ∧ i.rs1 ≤ 31) then [i.rs1] else []) = l1 at *
  generalize (if secB i.op && decide (1 ≤ i.rs2 ∧ i.rs2 ≤ 31) then [i.rs2] else []) = l2 at *
  have HV : Hid (sl = l1 ++ l2) := HV.out _ _ rfl rfl
  generalize firB i.op = f at *
  generalize secB i.op = s at *
  generalize regV i.rs1 = x1 at *
  generalize regV i.rs2 = x2 at *
  clear hT
  obtain ⟨op, rd, rs1, rs2, imm, aq, rl, pred, succ⟩ := i
  simp only at HF HS HR1 HR2 P1 P2 HI HB ⊢
  rcases P1 with ⟨rfl, rfl⟩ | ⟨rfl, rfl, g1, rfl⟩ | ⟨rfl, rfl, g1, rfl⟩ <;> rcases P2 with ⟨rfl, rfl⟩ | ⟨rfl, rfl, g2, rfl⟩ | ⟨rfl, rfl, g2, rfl⟩
  all_goals
    try (have n1 : (x1 != 0) = true := by simp; omega)
    try (have n2 : (x2 != 0) = true := by simp; omega)
    go_enter Tryz.func146, Tryz.ntmps146
    go_upto_region 1 with (fail)
    generalize w.alloc (.cells _ 39) = w1 at *
    obtain ⟨q0, q1, q2, q3⟩ := HI.out.cells
    simp only at q0 q1 q2 q3
    first
    | (go_wp2_with (first | (go_at_call 60; ((with_reducible refine (HR1 _).mono ?_); rintro e wx ⟨rfl, rfl⟩)) | (go_at_call 60; ((with_reducible refine (HR2 _).mono ?_); rintro e wx ⟨rfl, rfl⟩)) | (go_at_call 175; refine HF.mono ?_; rintro e wx ⟨rfl, rfl⟩) | (go_at_call 176; refine (HS _ HB.out).mono ?_; rintro e wx ⟨rfl, rfl⟩))
       go_ret
       exact ⟨none, 0, by rw [HV.out]; rfl, .inl (by rw [HV.out]; rfl), HB.out, fun _ h => by cases h⟩)
    | (go_wp2_with (first | (at_builtin; refine wpList_append_own _ rfl _ _ 80 rfl w.heap.size 3 i0 (.int .i64 0) 1 8 Tryz.underlying80 hi hz0 hz1 hz2 rfl (by decide) _ 0 [] rfl (World.ownsRow_nil _ _ _ _) ⟨w1.heap.size, 0, none⟩ 1 1 [.int .i64 x1] rfl rfl (zi4 _ _ _) (by simp [Value.oneCell']) (by unfold maxLen; omega) (by omega) (by have := HB.out.size; simp; omega) ?_) | (go_at_call 60; ((with_reducible refine (HR1 _).mono ?_); rintro e wx ⟨rfl, rfl⟩)) | (go_at_call 60; ((with_reducible refine (HR2 _).mono ?_); rintro e wx ⟨rfl, rfl⟩)) | (go_at_call 175; refine HF.mono ?_; rintro e wx ⟨rfl, rfl⟩) | (go_at_call 176; refine (HS _ HB.out).mono ?_; rintro e wx ⟨rfl, rfl⟩))
       intro v1 wa hown1 hgrow1 hnn
       clear hnn
       have hpa := zu0 hgrow1
       have HBA : Hid (Below w.heap.size w wa) := HB.out.trans (hpa.mono HB.out.size)
       have HIA := Lib.hid (HI.out.on hpa)
       obtain ⟨qa0, qa1, qa2, qa3⟩ := HIA.out.cells
       simp only at qa0 qa1 qa2 qa3
       have HO1 := Lib.hid hown1
       clear hgrow1 hpa hown1
       go_wp2_with (first | (go_at_call 60; ((with_reducible refine (HR1 _).mono ?_); rintro e wx ⟨rfl, rfl⟩)) | (go_at_call 60; ((with_reducible refine (HR2 _).mono ?_); rintro e wx ⟨rfl, rfl⟩)) | (go_at_call 175; refine HF.mono ?_; rintro e wx ⟨rfl, rfl⟩) | (go_at_call 176; refine (HS _ HBA.out).mono ?_; rintro e wx ⟨rfl, rfl⟩))
       go_ret
       exact RetN.of_own (by rw [HV.out]; exact HO1.out) HBA.out)
    | (go_wp2_with (first | (at_builtin; refine wpList_append_own _ rfl _ _ 80 rfl w.heap.size 3 i0 (.int .i64 0) 1 8 Tryz.underlying80 hi hz0 hz1 hz2 rfl (by decide) _ 0 [] rfl (World.ownsRow_nil _ _ _ _) ⟨w1.heap.size, 0, none⟩ 1 1 [.int .i64 x2] rfl rfl (zi4 _ _ _) (by simp [Value.oneCell']) (by unfold maxLen; omega) (by omega) (by have := HB.out.size; simp; omega) ?_) | (go_at_call 60; ((with_reducible refine (HR1 _).mono ?_); rintro e wx ⟨rfl, rfl⟩)) | (go_at_call 60; ((with_reducible refine (HR2 _).mono ?_); rintro e wx ⟨rfl, rfl⟩)) | (go_at_call 175; refine HF.mono ?_; rintro e wx ⟨rfl, rfl⟩) | (go_at_call 176; refine (HS _ HB.out).mono ?_; rintro e wx ⟨rfl, rfl⟩))
       intro v1 wa hown1 hgrow1 hnn
       clear hnn
       have hpa := zu0 hgrow1
       have HBA : Hid (Below w.heap.size w wa) := HB.out.trans (hpa.mono HB.out.size)
       have HO1 := Lib.hid hown1
       clear hgrow1 hpa hown1
       go_wp2
       go_ret
       exact RetN.of_own (by rw [HV.out]; exact HO1.out) HBA.out)
    | (go_wp2_with (first | (at_builtin; refine wpList_append_own _ rfl _ _ 80 rfl w.heap.size 3 i0 (.int .i64 0) 1 8 Tryz.underlying80 hi hz0 hz1 hz2 rfl (by decide) _ 0 [] rfl (World.ownsRow_nil _ _ _ _) ⟨w1.heap.size, 0, none⟩ 1 1 [.int .i64 x1] rfl rfl (zi4 _ _ _) (by simp [Value.oneCell']) (by unfold maxLen; omega) (by omega) (by have := HB.out.size; simp; omega) ?_) | (go_at_call 60; ((with_reducible refine (HR1 _).mono ?_); rintro e wx ⟨rfl, rfl⟩)) | (go_at_call 60; ((with_reducible refine (HR2 _).mono ?_); rintro e wx ⟨rfl, rfl⟩)) | (go_at_call 175; refine HF.mono ?_; rintro e wx ⟨rfl, rfl⟩) | (go_at_call 176; refine (HS _ HB.out).mono ?_; rintro e wx ⟨rfl, rfl⟩))
       intro v1 wa hown1 hgrow1 hnn
       clear hnn
       have hpa := zu0 hgrow1
       have HBA : Hid (Below w.heap.size w wa) := HB.out.trans (hpa.mono HB.out.size)
       have HIA := Lib.hid (HI.out.on hpa)
       obtain ⟨qa0, qa1, qa2, qa3⟩ := HIA.out.cells
       simp only at qa0 qa1 qa2 qa3
       have HO1 := Lib.hid hown1
       clear hgrow1 hpa hown1
       go_wp2_with (first | (at_builtin; refine wpList_append_own _ rfl _ _ 80 rfl w.heap.size 3 i0 (.int .i64 0) 1 8 Tryz.underlying80 hi hz0 hz1 hz2 rfl (by decide) _ _ _ rfl (HO1.out.alloc _) ⟨wa.heap.size, 0, none⟩ 1 1 [.int .i64 x2] rfl rfl (zi4 _ _ _) (by simp [Value.oneCell']) (by unfold maxLen; omega) (by omega) (by have := HBA.out.size; simp; omega) ?_) | (go_at_call 60; ((with_reducible refine (HR1 _).mono ?_); rintro e wx ⟨rfl, rfl⟩)) | (go_at_call 60; ((with_reducible refine (HR2 _).mono ?_); rintro e wx ⟨rfl, rfl⟩)) | (go_at_call 175; refine HF.mono ?_; rintro e wx ⟨rfl, rfl⟩) | (go_at_call 176; refine (HS _ HBA.out).mono ?_; rintro e wx ⟨rfl, rfl⟩))
       intro v2 wb hown2 hgrow2 hnn
       clear hnn
       have HBB : Hid (Below w.heap.size w wb) := (HBA.out.alloc HBA.out.size _).grown hgrow2 (by have := HBA.out.size; simp; omega) (fun q hq => (HO1.out.lt q hq).1)
       have HO2 := Lib.hid hown2
       clear hgrow2 hown2
       go_wp2
       go_ret
       exact RetN.of_own (by rw [HV.out]; exact HO2.out) HBB.out)
end Go.Proofs.YtmamblgpekafbaaGreatDoor
