/- The contracts of Address, Loaded, Stored and Where of package alu; what is asked of the package is so ('calu'). -/
import Derived.Test.YtoifkdjalddhkaaDoorRows
import Derived.Test.YtoifkdjalddhkaaDoorKc
import Derived.WalkKit
import Derived.WalkLawsBesides
import Derived.WalkSmall
import Derived.WalkSpells
import Derived.Lib.Hide
import Derived.Below
import Derived.Outline
namespace Go.Proofs.YtoifkdjalddhkaaDoor
open Go.RowKit

theorem address_c (i : Ins) (a : Int) (ho : I64 i.op) (w : World) (T : TabL w) : Calls Tryd.prog 15 #[insV i, .int .u64 a] w fun e w' => e = .returned (.int .u64 (adrV i.op i.imm a)) ∧ Below w.heap.size w w' := by
  have HJ : Jn w i w.heap.size (w.alloc (.cells (insCells i) 23)) := ⟨BW.new (Below.refl _ _) _, Blk.new _ _ _, Nat.le_refl _⟩
  have HTL := T.below HJ.1
  have KS := fun x (h : TabL x) => sort_c i.op ho x h
  have hr := srt_range i.op
  have hv : adrV i.op i.imm a = if srt i.op = 4 ∨ srt i.op = 5 then IntKind.u64.wrap (a + IntKind.u64.wrap i.imm) else if 10 ≤ srt i.op then a else 0 := by rw [IntKind.wrap_u64 (a + _)]; rfl
  clear ho T
  obtain ⟨op, rd, rs1, rs2, imm, aq, rl, pred, succ⟩ := i
  unfold insV
  unfold insCells at HJ HTL
  simp only at KS hv hr HJ HTL ⊢
  obtain ⟨c0, c1, c2, c3, c4, c5, c6, c7, c8⟩ := HJ.cells
  simp only at c0 c1 c2 c3 c4 c5 c6 c7 c8
  clear c1 c2 c3 c5 c6 c7 c8
  have HB := Lib.hid HJ.1
  clear HJ
  generalize srt op = k at *
  have hc : k = 4 ∨ k = 5 ∨ k = 10 ∨ k = 11 ∨ k = 12 ∨ (k ≠ 4 ∧ k ≠ 5 ∧ k < 10) := by omega
  clear hr
  rcases hc with rfl | rfl | rfl | rfl | rfl | ⟨k4, k5, k9⟩
  case' inr.inr.inr.inr.inr =>
    have b4 : (k == 4) = false := by simpa using k4
    have b5 : (k == 5) = false := by simpa using k5
    have b10 : (k == 10) = false := by simp; omega
    have b11 : (k == 11) = false := by simp; omega
    have b12 : (k == 12) = false := by simp; omega
    rw [if_neg (by omega), if_neg (by omega)] at hv
    clear k4 k5 k9
  all_goals
    have HV := Lib.hid hv
    clear hv
    go_enter Tryd.func15, Tryd.ntmps15
    go_wp2_with (first | (go_at_call 24; refine (KS _ HTL).mono ?_; rintro e w2 ⟨rfl, rfl⟩))
    go_ret
    exact ⟨ret_int (by rw [HV.out]; first | done | (simp; done)), HB.out⟩

theorem loa_way (op : Int) : (srt op = 4 ∧ 15 ≤ op ∧ op ≤ 17) ∨ (srt op = 4 ∧ op < 15) ∨ (srt op = 10 ∧ ¬ (15 ≤ op ∧ op ≤ 17)) ∨ (srt op = 12 ∧ ¬ (15 ≤ op ∧ op ≤ 17)) ∨ (srt op ≠ 4 ∧ srt op ≠ 10 ∧ srt op ≠ 12) := by
  have hs := srt_spec op
  generalize srt op = k at *
  by_cases h4 : k = 4
  · by_cases h : 15 ≤ op
    · exact .inl ⟨h4, by omega⟩
    · exact .inr (.inl ⟨h4, by omega⟩)
  by_cases h10 : k = 10
  · exact .inr (.inr (.inl ⟨h10, by omega⟩))
  by_cases h12 : k = 12
  · exact .inr (.inr (.inr (.inl ⟨h12, by omega⟩)))
  · exact .inr (.inr (.inr (.inr ⟨h4, h10, h12⟩)))
theorem loaded_c (op raw : Int) (ho : I64 op) (hu : U64 raw) (w : World) (T : TabL w) : Calls Tryd.prog 17 #[.int .i64 op, .int .u64 raw] w fun e w' => e = .returned (.int .u64 (loaV op raw)) ∧ w = w' := by
  have KS := sort_c op ho w T
  have KG := size_c op ho w T
  have hz := (siz_capx op).2
  have KZ := fun x => zext_any raw (8 * siz op) hu.1 hu.lt x
  have KX := fun x => sext_any raw (8 * siz op) hu.1 hu.lt x
  have hv : loaV op raw = if srt op = 4 ∨ srt op = 10 ∨ srt op = 12 then (if 15 ≤ op ∧ op ≤ 17 then zx raw (cap64 (8 * siz op)) else sx raw (cap64 (8 * siz op))) else 0 := by rw [(siz_capx op).1]; rfl
  have hw := loa_way op
  generalize loaV op raw = r at *
  generalize zx raw (cap64 (8 * siz op)) = v at *
  generalize sx raw (cap64 (8 * siz op)) = u at *
  generalize siz op = z at *
  have e8 : wrap64 (8 * z) = 8 * z := by rw [wrap64_eq, IntKind.wrap_i64]; omega
  generalize srt op = k at *
  clear ho hu T
  rcases hw with ⟨rfl, h1, h2⟩ | ⟨rfl, h⟩ | ⟨rfl, h⟩ | ⟨rfl, h⟩ | ⟨k4, k10, k12⟩
  case' inl => rw [if_pos (by decide), if_pos ⟨h1, h2⟩] at hv
  case' inr.inl => rw [if_pos (by decide), if_neg (by omega)] at hv
  case' inr.inr.inl => rw [if_pos (by decide), if_neg h] at hv; clear h
  case' inr.inr.inr.inl => rw [if_pos (by decide), if_neg h] at hv; clear h
  case' inr.inr.inr.inr =>
    have b4 : (k == 4) = false := by simpa using k4
    have b10 : (k == 10) = false := by simpa using k10
    have b12 : (k == 12) = false := by simpa using k12
    rw [if_neg (by omega)] at hv
    clear k4 k10 k12
  all_goals
    have HV := Lib.hid hv
    clear hv
    go_enter Tryd.func17, Tryd.ntmps17
    go_wp2_with (first
      | (go_at_call 24; refine KS.mono ?_; rintro e w2 ⟨rfl, rfl⟩)
      | (go_at_call 34; refine KG.mono ?_; rintro e w2 ⟨rfl, rfl⟩)
      | (go_at_call 35; refine (KZ _).mono ?_; rintro e w2 ⟨rfl, rfl⟩)
      | (go_at_call 36; refine (KX _).mono ?_; rintro e w2 ⟨rfl, rfl⟩))
    go_ret
    exact ⟨ret_int HV.out.symm, rfl⟩

theorem stored_c (op old b : Int) (ho : I64 op) (ha : U64 old) (hb : U64 b) (w : World) (T : TabL w) : Calls Tryd.prog 19 #[.int .i64 op, .int .u64 old, .int .u64 b] w fun e w' => e = .returned (.int .u64 (stoV op old b)) ∧ w = w' := by
  have KS := sort_c op ho w T
  have KG := size_c op ho w T
  have hz := (siz_capx op).2
  have hw : (srt op = 5 ∨ srt op = 11) ∨ srt op = 12 ∨ (srt op ≠ 5 ∧ srt op ≠ 11 ∧ srt op ≠ 12) := by omega
  rcases hw with h | h | h
  · have KZ := fun x => zext_any b (8 * siz op) hb.1 hb.lt x
    have hv := sto_some (op := op) (old := old) (b := b) h
    rw [← (siz_capx op).1] at hv
    have HV := Lib.hid hv
    clear hv ho ha hb T
    generalize stoV op old b = r at *
    generalize zx b (cap64 (8 * siz op)) = v at *
    generalize siz op = z at *
    have e8 : wrap64 (8 * z) = 8 * z := by rw [wrap64_eq, IntKind.wrap_i64]; omega
    generalize srt op = k at *
    rcases h with rfl | rfl
    all_goals
      go_enter Tryd.func19, Tryd.ntmps19
      go_wp2_with (first
        | (go_at_call 24; refine KS.mono ?_; rintro e w2 ⟨rfl, rfl⟩)
        | (go_at_call 34; refine KG.mono ?_; rintro e w2 ⟨rfl, rfl⟩)
        | (go_at_call 35; refine (KZ _).mono ?_; rintro e w2 ⟨rfl, rfl⟩))
      go_ret
      exact ⟨ret_int HV.out.symm, rfl⟩
  · have hn : (8 * siz op).toNat = 32 ∨ (8 * siz op).toNat = 64 := by rw [siz_atom h]; split <;> decide
    have hop : 58 ≤ op ∧ op ≤ 75 := by have := srt_spec op; omega
    have hv := sto_amo (op := op) (old := old) (b := b) h
    rw [← chg_amo ((op - 58) % 9) old b (by omega) hn] at hv
    have K1 := fun x => sext_any old (8 * siz op) ha.1 ha.lt x
    have K2 := fun x => sext_any b (8 * siz op) hb.1 hb.lt x
    rw [(siz_capx op).1] at K1 K2
    have hle : (8 * siz op).toNat ≤ 64 := by omega
    have s1 := sx_range old (8 * siz op).toNat hle
    have s2 := sx_range b (8 * siz op).toNat hle
    have KC := fun x => changed_c op (sx old (8 * siz op).toNat) (sx b (8 * siz op).toNat) hop s1 s2 x
    have hcU : U64 (chgV ((op - 58) % 9) (sx old (8 * siz op).toNat) (sx b (8 * siz op).toNat)) := chg_U s1 s2
    have KZ := fun x => zext_any (chgV ((op - 58) % 9) (sx old (8 * siz op).toNat) (sx b (8 * siz op).toNat)) (8 * siz op) hcU.1 hcU.lt x
    rw [(siz_capx op).1] at KZ
    have HV := Lib.hid hv
    clear hv ho ha hb T hn hle s1 s2 hcU hop
    generalize stoV op old b = r at *
    generalize chgV ((op - 58) % 9) (sx old (8 * siz op).toNat) (sx b (8 * siz op).toNat) = c at *
    generalize zx c (8 * siz op).toNat = v at *
    generalize sx old (8 * siz op).toNat = u1 at *
    generalize sx b (8 * siz op).toNat = u2 at *
    generalize siz op = z at *
    have e8 : wrap64 (8 * z) = 8 * z := by rw [wrap64_eq, IntKind.wrap_i64]; omega
    generalize srt op = k at *
    subst h
    go_enter Tryd.func19, Tryd.ntmps19
    go_wp2_with (first
      | (go_at_call 24; refine KS.mono ?_; rintro e w2 ⟨rfl, rfl⟩)
      | (go_at_call 34; refine KG.mono ?_; rintro e w2 ⟨rfl, rfl⟩)
      | (go_at_call 36; ((with_reducible refine (K1 _).mono ?_); rintro e w2 ⟨rfl, rfl⟩))
      | (go_at_call 36; ((with_reducible refine (K2 _).mono ?_); rintro e w2 ⟨rfl, rfl⟩))
      | (go_at_call 37; refine (KC _).mono ?_; rintro e w2 ⟨rfl, rfl⟩)
      | (go_at_call 35; refine (KZ _).mono ?_; rintro e w2 ⟨rfl, rfl⟩))
    go_ret
    exact ⟨ret_int HV.out.symm, rfl⟩
  · have HV := Lib.hid (sto_none (op := op) (old := old) (b := b) h)
    clear ho ha hb T
    generalize stoV op old b = r at *
    generalize siz op = z at *
    have e8 : wrap64 (8 * z) = 8 * z := by rw [wrap64_eq, IntKind.wrap_i64]; omega
    generalize srt op = k at *
    obtain ⟨k5, k11, k12⟩ := h
    have b5 : (k == 5) = false := by simpa using k5
    have b11 : (k == 11) = false := by simpa using k11
    have b12 : (k == 12) = false := by simpa using k12
    clear k5 k11 k12
    go_enter Tryd.func19, Tryd.ntmps19
    go_wp2_with (first
      | (go_at_call 24; refine KS.mono ?_; rintro e w2 ⟨rfl, rfl⟩)
      | (go_at_call 34; refine KG.mono ?_; rintro e w2 ⟨rfl, rfl⟩))
    go_ret
    exact ⟨ret_int HV.out.symm, rfl⟩

/-- An address that is no multiple of the size. -/
theorem odd_c (w : World) (T : TabL w) : Calls Tryd.prog 23 #[.int .i64 13, .int .u64 2, .int .i64 8] w fun e w' => e = .returned (.int .i64 4) ∧ w = w' := by
  have KG := size_c 13 ⟨by decide, by decide⟩ w T
  rw [z_13] at KG
  clear T
  go_enter Tryd.func23, Tryd.ntmps23
  go_wp2_with (first
    | (go_at_call 34; refine KG.mono ?_; rintro e w2 ⟨rfl, rfl⟩))
  go_ret
  exact ⟨rfl, rfl⟩

theorem calu {W : World} (T : Tab8 W) : Calu W :=
  ⟨fun i pc a b w h ho _ ha hb => result_c i pc a b ho ha hb w (T.below h),
   fun i a b w _ _ ha hb => taken_c i a b ha hb w,
   fun i pc a b w _ _ _ ha hb => next_c i pc a b ha hb w,
   fun i a w h ho _ => address_c i a ho w (T.below h).lasts,
   fun op raw w h ho hu => (loaded_c op raw ho hu w (T.below h).lasts).mono fun _ _ ⟨he, hw⟩ => ⟨he, by subst hw; exact Below.refl _ _⟩,
   fun op old b w h ho ha hb => (stored_c op old b ho ha hb w (T.below h).lasts).mono fun _ _ ⟨he, hw⟩ => ⟨he, by subst hw; exact Below.refl _ _⟩,
   fun w h => (odd_c w (T.below h).lasts).mono fun _ _ ⟨he, hw⟩ => ⟨he, by subst hw; exact Below.refl _ _⟩⟩
end Go.Proofs.YtoifkdjalddhkaaDoor
