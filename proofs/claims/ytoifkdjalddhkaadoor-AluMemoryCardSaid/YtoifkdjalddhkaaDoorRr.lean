/- The document's Result. -/
import Derived.Test.YtoifkdjalddhkaaDoorRows
import Derived.Test.YtoifkdjalddhkaaDoorRv
import Derived.Test.YtoifkdjalddhkaaDoorBr
import Derived.Test.YtoifkdjalddhkaaDoorSy
import Derived.Test.YtoifkdjalddhkaaDoorJn
import Derived.Test.YtoifkdjalddhkaaDoorWx
import Derived.WalkKit
import Derived.WalkLawsBesides
import Derived.Deep.QuietTactic
import Derived.BigQuiet
import Derived.WalkSmall
import Derived.WalkSpells
import Derived.Lib.Hide
import Derived.Below
namespace Go.Proofs.YtoifkdjalddhkaaDoor
open Go.RowKit

theorem rzx32 (x : Int) (h : U64 x) (w : World) : Calls Tryd.prog 21 #[.int .u64 x, .int .i64 32] w fun e w' => e = .returned (.int .u64 (zxw x)) ∧ w = w' := rzext_any x 32 h.1 h.lt w
theorem rsx32 (x : Int) (h : U64 x) (w : World) : Calls Tryd.prog 32 #[.int .u64 x, .int .i64 32] w fun e w' => e = .returned (.int .u64 (sxw x)) ∧ w = w' := rsext_any x 32 h.1 h.lt w
def ResAt (op : Int) : Prop := ∀ (i : Ins) (pc a b : Int) (w : World), i.op = op → U64 pc → U64 a → U64 b →
  Calls Tryd.prog 10 #[insV i, .int .u64 pc, .int .u64 a, .int .u64 b] w fun e w' => e = .returned (.int .u64 (resV op i.imm pc a b)) ∧ Below w.heap.size w w'
set_option maxHeartbeats 8000000 in
theorem res_a (op : Int) (hop : 1 ≤ op ∧ op ≤ 10) : ResAt op := by
  intro i pc a b w hi hpc ha hb
  have HJ : Jn w i w.heap.size (w.alloc (.cells (insCells i) 23)) := ⟨BW.new (Below.refl _ _) _, Blk.new _ _ _, Nat.le_refl _⟩
  have KS := fun i x (h : Jn w i w.heap.size x) => (rsort_any op (by omega) (by omega) x).mono fun e w' (hh : _ ∧ _) => And.intro hh.1 (h.on hh.2)
  have KN := fun i x (h : Jn w i w.heap.size x) => (rname_any op (by omega) (by omega) x).mono fun e w' (hh : _ ∧ _) => And.intro hh.1 (h.on hh.2)
  have KZ := fun x => rzx32 a ha x
  have hzr := zxw_r a
  obtain ⟨z, hz⟩ : ∃ z, zxw a = z := ⟨_, rfl⟩
  rw [hz] at KZ hzr
  have HZ := Lib.hid hz
  have HZR := Lib.hid hzr
  have hzt : z / 2147483648 = 0 ∨ z / 2147483648 = 1 := by omega
  obtain ⟨R1, HR1⟩ : ∃ f : Int → Int, Hid (∀ x : Int, f x = rigV a 64 x.toNat 0) := ⟨fun x => rigV a 64 x.toNat 0, fun _ => rfl⟩
  obtain ⟨R2, HR2⟩ : ∃ f : Int → Int, Hid (∀ x : Int, f x = rigV a 64 x.toNat (a / 9223372036854775808)) := ⟨fun x => rigV a 64 x.toNat (a / 9223372036854775808), fun _ => rfl⟩
  obtain ⟨R3, HR3⟩ : ∃ f : Int → Int, Hid (∀ x : Int, f x = rigV z 32 x.toNat 0) := ⟨fun x => rigV z 32 x.toNat 0, fun _ => rfl⟩
  obtain ⟨R4, HR4⟩ : ∃ f : Int → Int, Hid (∀ x : Int, f x = rigV z 32 x.toNat (z / 2147483648)) := ⟨fun x => rigV z 32 x.toNat (z / 2147483648), fun _ => rfl⟩
  have KR1 := fun x h0 h1 w => rr64 a x 0 ha (.inl rfl) h0 h1 w
  have KR2 := fun x h0 h1 w => rr64 a x _ ha (top01 a ha) h0 h1 w
  have KR3 := fun x h0 h1 w => rr32 z x 0 hzr (.inl rfl) h0 h1 w
  have KR4 := fun x h0 h1 w => rr32 z x _ hzr hzt h0 h1 w
  simp only [← HR1.out] at KR1
  simp only [← HR2.out] at KR2
  simp only [← HR3.out] at KR3
  simp only [← HR4.out] at KR4
  have HU3 : ∀ x : Int, 0 ≤ x → x < 32 → U64 (R3 x) := fun x h0 h1 => by rw [HR3.out]; exact rig32_U hzr (.inl rfl) h0 h1
  have HU4 : ∀ x : Int, 0 ≤ x → x < 32 → U64 (R4 x) := fun x h0 h1 => by rw [HR4.out]; exact rig32_U hzr hzt h0 h1
  clear hz hzr hzt
  unfold insV
  obtain ⟨op', rd, rs1, rs2, imm, aq, rl, pred, succ⟩ := i
  simp only at hi ⊢
  subst hi
  unfold insCells at HJ
  simp only at HJ
  obtain ⟨c0, c1, c2, c3, c4, c5, c6, c7, c8⟩ := HJ.cells
  simp only at c0 c1 c2 c3 c4 c5 c6 c7 c8
  have t1 := tm_mod b 64 hb (by decide) (by decide)
  have t2 := tm_mod b 32 hb (by decide) (by decide)
  have t3 := tm_mod (IntKind.u64.wrap imm) 64 (w_U _) (by decide) (by decide)
  have t4 := tm_mod (IntKind.u64.wrap imm) 32 (w_U _) (by decide) (by decide)
  have KB1 := fun w => KR1 (b % 64) (by omega) (by omega) w
  have KI1 := fun w => KR1 (IntKind.u64.wrap imm % 64) (by omega) (by omega) w
  have KB2 := fun w => KR2 (b % 64) (by omega) (by omega) w
  have KI2 := fun w => KR2 (IntKind.u64.wrap imm % 64) (by omega) (by omega) w
  have KB3 := fun w => KR3 (b % 32) (by omega) (by omega) w
  have KI3 := fun w => KR3 (IntKind.u64.wrap imm % 32) (by omega) (by omega) w
  have KB4 := fun w => KR4 (b % 32) (by omega) (by omega) w
  have KI4 := fun w => KR4 (IntKind.u64.wrap imm % 32) (by omega) (by omega) w
  clear KR1 KR2 KR3 KR4
  have HA := Lib.hid ha
  have HB := Lib.hid hb
  have HP := Lib.hid hpc
  clear ha hb hpc
  rcases nfs_a hop with ⟨rfl, hs, hn, _⟩ | ⟨rfl, hs, hn, _⟩ | ⟨rfl, hs, hn, _⟩ | ⟨rfl, hs, hn, _⟩ | ⟨rfl, hs, hn, _⟩ | ⟨rfl, hs, hn, _⟩ | ⟨rfl, hs, hn, _⟩ | ⟨rfl, hs, hn, _⟩ | ⟨rfl, hs, hn, _⟩ | ⟨rfl, hs, hn, _⟩
  all_goals
    rw [hs] at KS
    rw [hn] at KN
    clear hs hn
    go_enter Tryd.func10, Tryd.ntmps10
    go_wp2_with (first
      | (go_at_call 26; refine (KS _ _ HJ).mono ?_; rintro e w1 ⟨rfl, HJ⟩; obtain ⟨c0, c1, c2, c3, c4, c5, c6, c7, c8⟩ := HJ.cells)
      | (go_at_call 21; refine (KZ _).mono ?_; rintro e w' ⟨rfl, rfl⟩)
      | (go_at_call 27; refine (KN _ _ HJ).mono ?_; rintro e w2 ⟨rfl, HJ⟩)
      | (go_at_call 29; refine (rlow_c _ _ (by first | exact HA.out | exact HB.out | with_reducible exact w_U _) (by first | exact HA.out | exact HB.out | with_reducible exact w_U _) _).mono ?_; rintro e w' ⟨rfl, rfl⟩)
      | (go_at_call 28; refine (rbool_c _ _).mono ?_; rintro e w' ⟨rfl, rfl⟩)
      | (go_at_call 30; refine (rleft_i _ _ HA.out (by omega) (by omega) _).mono ?_; rintro e w' ⟨rfl, rfl⟩)
      | (go_at_call 31; ((with_reducible refine (KB1 _).mono ?_); rintro e w' ⟨rfl, rfl⟩))
      | (go_at_call 31; ((with_reducible refine (KI1 _).mono ?_); rintro e w' ⟨rfl, rfl⟩))
      | (go_at_call 31; ((with_reducible refine (KB2 _).mono ?_); rintro e w' ⟨rfl, rfl⟩))
      | (go_at_call 31; ((with_reducible refine (KI2 _).mono ?_); rintro e w' ⟨rfl, rfl⟩))
      | (go_at_call 31; ((with_reducible refine (KB3 _).mono ?_); rintro e w' ⟨rfl, rfl⟩))
      | (go_at_call 31; ((with_reducible refine (KI3 _).mono ?_); rintro e w' ⟨rfl, rfl⟩))
      | (go_at_call 31; ((with_reducible refine (KB4 _).mono ?_); rintro e w' ⟨rfl, rfl⟩))
      | (go_at_call 31; ((with_reducible refine (KI4 _).mono ?_); rintro e w' ⟨rfl, rfl⟩))
      | (go_at_call 32; refine (rsx32 _ (by first | with_reducible exact lefV_U _ _ | with_reducible exact w_U _ | exact HU3 _ (by omega) (by omega) | exact HU4 _ (by omega) (by omega)) _).mono ?_; rintro e w' ⟨rfl, rfl⟩))
    go_ret
  · exact ⟨ret_int (rfl), HJ.1⟩
  · exact ⟨ret_int (w_imm _), HJ.1⟩
  · exact ⟨ret_int (w_imm _), HJ.1⟩
  · exact ⟨ret_int (w_imm _), HJ.1⟩
  · exact ⟨ret_int ((resV_none (by decide)).symm), HJ.1⟩
  · exact ⟨ret_int ((resV_none (by decide)).symm), HJ.1⟩
  · exact ⟨ret_int ((resV_none (by decide)).symm), HJ.1⟩
  · exact ⟨ret_int ((resV_none (by decide)).symm), HJ.1⟩
  · exact ⟨ret_int ((resV_none (by decide)).symm), HJ.1⟩
  · exact ⟨ret_int ((resV_none (by decide)).symm), HJ.1⟩
set_option maxHeartbeats 8000000 in
theorem res_b (op : Int) (hop : 11 ≤ op ∧ op ≤ 21) : ResAt op := by
  intro i pc a b w hi hpc ha hb
  have HJ : Jn w i w.heap.size (w.alloc (.cells (insCells i) 23)) := ⟨BW.new (Below.refl _ _) _, Blk.new _ _ _, Nat.le_refl _⟩
  have KS := fun i x (h : Jn w i w.heap.size x) => (rsort_any op (by omega) (by omega) x).mono fun e w' (hh : _ ∧ _) => And.intro hh.1 (h.on hh.2)
  have KN := fun i x (h : Jn w i w.heap.size x) => (rname_any op (by omega) (by omega) x).mono fun e w' (hh : _ ∧ _) => And.intro hh.1 (h.on hh.2)
  have KZ := fun x => rzx32 a ha x
  have hzr := zxw_r a
  obtain ⟨z, hz⟩ : ∃ z, zxw a = z := ⟨_, rfl⟩
  rw [hz] at KZ hzr
  have HZ := Lib.hid hz
  have HZR := Lib.hid hzr
  have hzt : z / 2147483648 = 0 ∨ z / 2147483648 = 1 := by omega
  obtain ⟨R1, HR1⟩ : ∃ f : Int → Int, Hid (∀ x : Int, f x = rigV a 64 x.toNat 0) := ⟨fun x => rigV a 64 x.toNat 0, fun _ => rfl⟩
  obtain ⟨R2, HR2⟩ : ∃ f : Int → Int, Hid (∀ x : Int, f x = rigV a 64 x.toNat (a / 9223372036854775808)) := ⟨fun x => rigV a 64 x.toNat (a / 9223372036854775808), fun _ => rfl⟩
  obtain ⟨R3, HR3⟩ : ∃ f : Int → Int, Hid (∀ x : Int, f x = rigV z 32 x.toNat 0) := ⟨fun x => rigV z 32 x.toNat 0, fun _ => rfl⟩
  obtain ⟨R4, HR4⟩ : ∃ f : Int → Int, Hid (∀ x : Int, f x = rigV z 32 x.toNat (z / 2147483648)) := ⟨fun x => rigV z 32 x.toNat (z / 2147483648), fun _ => rfl⟩
  have KR1 := fun x h0 h1 w => rr64 a x 0 ha (.inl rfl) h0 h1 w
  have KR2 := fun x h0 h1 w => rr64 a x _ ha (top01 a ha) h0 h1 w
  have KR3 := fun x h0 h1 w => rr32 z x 0 hzr (.inl rfl) h0 h1 w
  have KR4 := fun x h0 h1 w => rr32 z x _ hzr hzt h0 h1 w
  simp only [← HR1.out] at KR1
  simp only [← HR2.out] at KR2
  simp only [← HR3.out] at KR3
  simp only [← HR4.out] at KR4
  have HU3 : ∀ x : Int, 0 ≤ x → x < 32 → U64 (R3 x) := fun x h0 h1 => by rw [HR3.out]; exact rig32_U hzr (.inl rfl) h0 h1
  have HU4 : ∀ x : Int, 0 ≤ x → x < 32 → U64 (R4 x) := fun x h0 h1 => by rw [HR4.out]; exact rig32_U hzr hzt h0 h1
  clear hz hzr hzt
  unfold insV
  obtain ⟨op', rd, rs1, rs2, imm, aq, rl, pred, succ⟩ := i
  simp only at hi ⊢
  subst hi
  unfold insCells at HJ
  simp only at HJ
  obtain ⟨c0, c1, c2, c3, c4, c5, c6, c7, c8⟩ := HJ.cells
  simp only at c0 c1 c2 c3 c4 c5 c6 c7 c8
  have t1 := tm_mod b 64 hb (by decide) (by decide)
  have t2 := tm_mod b 32 hb (by decide) (by decide)
  have t3 := tm_mod (IntKind.u64.wrap imm) 64 (w_U _) (by decide) (by decide)
  have t4 := tm_mod (IntKind.u64.wrap imm) 32 (w_U _) (by decide) (by decide)
  have KB1 := fun w => KR1 (b % 64) (by omega) (by omega) w
  have KI1 := fun w => KR1 (IntKind.u64.wrap imm % 64) (by omega) (by omega) w
  have KB2 := fun w => KR2 (b % 64) (by omega) (by omega) w
  have KI2 := fun w => KR2 (IntKind.u64.wrap imm % 64) (by omega) (by omega) w
  have KB3 := fun w => KR3 (b % 32) (by omega) (by omega) w
  have KI3 := fun w => KR3 (IntKind.u64.wrap imm % 32) (by omega) (by omega) w
  have KB4 := fun w => KR4 (b % 32) (by omega) (by omega) w
  have KI4 := fun w => KR4 (IntKind.u64.wrap imm % 32) (by omega) (by omega) w
  clear KR1 KR2 KR3 KR4
  have HA := Lib.hid ha
  have HB := Lib.hid hb
  have HP := Lib.hid hpc
  clear ha hb hpc
  rcases nfs_b hop with ⟨rfl, hs, hn, _⟩ | ⟨rfl, hs, hn, _⟩ | ⟨rfl, hs, hn, _⟩ | ⟨rfl, hs, hn, _⟩ | ⟨rfl, hs, hn, _⟩ | ⟨rfl, hs, hn, _⟩ | ⟨rfl, hs, hn, _⟩ | ⟨rfl, hs, hn, _⟩ | ⟨rfl, hs, hn, _⟩ | ⟨rfl, hs, hn, _⟩ | ⟨rfl, hs, hn, _⟩
  all_goals
    rw [hs] at KS
    rw [hn] at KN
    clear hs hn
    go_enter Tryd.func10, Tryd.ntmps10
    go_wp2_with (first
      | (go_at_call 26; refine (KS _ _ HJ).mono ?_; rintro e w1 ⟨rfl, HJ⟩; obtain ⟨c0, c1, c2, c3, c4, c5, c6, c7, c8⟩ := HJ.cells)
      | (go_at_call 21; refine (KZ _).mono ?_; rintro e w' ⟨rfl, rfl⟩)
      | (go_at_call 27; refine (KN _ _ HJ).mono ?_; rintro e w2 ⟨rfl, HJ⟩)
      | (go_at_call 29; refine (rlow_c _ _ (by first | exact HA.out | exact HB.out | with_reducible exact w_U _) (by first | exact HA.out | exact HB.out | with_reducible exact w_U _) _).mono ?_; rintro e w' ⟨rfl, rfl⟩)
      | (go_at_call 28; refine (rbool_c _ _).mono ?_; rintro e w' ⟨rfl, rfl⟩)
      | (go_at_call 30; refine (rleft_i _ _ HA.out (by omega) (by omega) _).mono ?_; rintro e w' ⟨rfl, rfl⟩)
      | (go_at_call 31; ((with_reducible refine (KB1 _).mono ?_); rintro e w' ⟨rfl, rfl⟩))
      | (go_at_call 31; ((with_reducible refine (KI1 _).mono ?_); rintro e w' ⟨rfl, rfl⟩))
      | (go_at_call 31; ((with_reducible refine (KB2 _).mono ?_); rintro e w' ⟨rfl, rfl⟩))
      | (go_at_call 31; ((with_reducible refine (KI2 _).mono ?_); rintro e w' ⟨rfl, rfl⟩))
      | (go_at_call 31; ((with_reducible refine (KB3 _).mono ?_); rintro e w' ⟨rfl, rfl⟩))
      | (go_at_call 31; ((with_reducible refine (KI3 _).mono ?_); rintro e w' ⟨rfl, rfl⟩))
      | (go_at_call 31; ((with_reducible refine (KB4 _).mono ?_); rintro e w' ⟨rfl, rfl⟩))
      | (go_at_call 31; ((with_reducible refine (KI4 _).mono ?_); rintro e w' ⟨rfl, rfl⟩))
      | (go_at_call 32; refine (rsx32 _ (by first | with_reducible exact lefV_U _ _ | with_reducible exact w_U _ | exact HU3 _ (by omega) (by omega) | exact HU4 _ (by omega) (by omega)) _).mono ?_; rintro e w' ⟨rfl, rfl⟩))
    go_ret
  · exact ⟨ret_int ((resV_none (by decide)).symm), HJ.1⟩
  · exact ⟨ret_int ((resV_none (by decide)).symm), HJ.1⟩
  · exact ⟨ret_int ((resV_none (by decide)).symm), HJ.1⟩
  · exact ⟨ret_int ((resV_none (by decide)).symm), HJ.1⟩
  · exact ⟨ret_int ((resV_none (by decide)).symm), HJ.1⟩
  · exact ⟨ret_int ((resV_none (by decide)).symm), HJ.1⟩
  · exact ⟨ret_int ((resV_none (by decide)).symm), HJ.1⟩
  · exact ⟨ret_int ((resV_none (by decide)).symm), HJ.1⟩
  · exact ⟨ret_int ((resV_none (by decide)).symm), HJ.1⟩
  · exact ⟨ret_int ((resV_none (by decide)).symm), HJ.1⟩
  · exact ⟨ret_int ((resV_none (by decide)).symm), HJ.1⟩
set_option maxHeartbeats 8000000 in
theorem res_c (op : Int) (hop : 22 ≤ op ∧ op ≤ 30) : ResAt op := by
  intro i pc a b w hi hpc ha hb
  have HJ : Jn w i w.heap.size (w.alloc (.cells (insCells i) 23)) := ⟨BW.new (Below.refl _ _) _, Blk.new _ _ _, Nat.le_refl _⟩
  have KS := fun i x (h : Jn w i w.heap.size x) => (rsort_any op (by omega) (by omega) x).mono fun e w' (hh : _ ∧ _) => And.intro hh.1 (h.on hh.2)
  have KN := fun i x (h : Jn w i w.heap.size x) => (rname_any op (by omega) (by omega) x).mono fun e w' (hh : _ ∧ _) => And.intro hh.1 (h.on hh.2)
  have KZ := fun x => rzx32 a ha x
  have hzr := zxw_r a
  obtain ⟨z, hz⟩ : ∃ z, zxw a = z := ⟨_, rfl⟩
  rw [hz] at KZ hzr
  have HZ := Lib.hid hz
  have HZR := Lib.hid hzr
  have hzt : z / 2147483648 = 0 ∨ z / 2147483648 = 1 := by omega
  obtain ⟨R1, HR1⟩ : ∃ f : Int → Int, Hid (∀ x : Int, f x = rigV a 64 x.toNat 0) := ⟨fun x => rigV a 64 x.toNat 0, fun _ => rfl⟩
  obtain ⟨R2, HR2⟩ : ∃ f : Int → Int, Hid (∀ x : Int, f x = rigV a 64 x.toNat (a / 9223372036854775808)) := ⟨fun x => rigV a 64 x.toNat (a / 9223372036854775808), fun _ => rfl⟩
  obtain ⟨R3, HR3⟩ : ∃ f : Int → Int, Hid (∀ x : Int, f x = rigV z 32 x.toNat 0) := ⟨fun x => rigV z 32 x.toNat 0, fun _ => rfl⟩
  obtain ⟨R4, HR4⟩ : ∃ f : Int → Int, Hid (∀ x : Int, f x = rigV z 32 x.toNat (z / 2147483648)) := ⟨fun x => rigV z 32 x.toNat (z / 2147483648), fun _ => rfl⟩
  have KR1 := fun x h0 h1 w => rr64 a x 0 ha (.inl rfl) h0 h1 w
  have KR2 := fun x h0 h1 w => rr64 a x _ ha (top01 a ha) h0 h1 w
  have KR3 := fun x h0 h1 w => rr32 z x 0 hzr (.inl rfl) h0 h1 w
  have KR4 := fun x h0 h1 w => rr32 z x _ hzr hzt h0 h1 w
  simp only [← HR1.out] at KR1
  simp only [← HR2.out] at KR2
  simp only [← HR3.out] at KR3
  simp only [← HR4.out] at KR4
  have HU3 : ∀ x : Int, 0 ≤ x → x < 32 → U64 (R3 x) := fun x h0 h1 => by rw [HR3.out]; exact rig32_U hzr (.inl rfl) h0 h1
  have HU4 : ∀ x : Int, 0 ≤ x → x < 32 → U64 (R4 x) := fun x h0 h1 => by rw [HR4.out]; exact rig32_U hzr hzt h0 h1
  clear hz hzr hzt
  unfold insV
  obtain ⟨op', rd, rs1, rs2, imm, aq, rl, pred, succ⟩ := i
  simp only at hi ⊢
  subst hi
  unfold insCells at HJ
  simp only at HJ
  obtain ⟨c0, c1, c2, c3, c4, c5, c6, c7, c8⟩ := HJ.cells
  simp only at c0 c1 c2 c3 c4 c5 c6 c7 c8
  have t1 := tm_mod b 64 hb (by decide) (by decide)
  have t2 := tm_mod b 32 hb (by decide) (by decide)
  have t3 := tm_mod (IntKind.u64.wrap imm) 64 (w_U _) (by decide) (by decide)
  have t4 := tm_mod (IntKind.u64.wrap imm) 32 (w_U _) (by decide) (by decide)
  have KB1 := fun w => KR1 (b % 64) (by omega) (by omega) w
  have KI1 := fun w => KR1 (IntKind.u64.wrap imm % 64) (by omega) (by omega) w
  have KB2 := fun w => KR2 (b % 64) (by omega) (by omega) w
  have KI2 := fun w => KR2 (IntKind.u64.wrap imm % 64) (by omega) (by omega) w
  have KB3 := fun w => KR3 (b % 32) (by omega) (by omega) w
  have KI3 := fun w => KR3 (IntKind.u64.wrap imm % 32) (by omega) (by omega) w
  have KB4 := fun w => KR4 (b % 32) (by omega) (by omega) w
  have KI4 := fun w => KR4 (IntKind.u64.wrap imm % 32) (by omega) (by omega) w
  clear KR1 KR2 KR3 KR4
  have HA := Lib.hid ha
  have HB := Lib.hid hb
  have HP := Lib.hid hpc
  clear ha hb hpc
  rcases nfs_c hop with ⟨rfl, hs, hn, _⟩ | ⟨rfl, hs, hn, _⟩ | ⟨rfl, hs, hn, _⟩ | ⟨rfl, hs, hn, _⟩ | ⟨rfl, hs, hn, _⟩ | ⟨rfl, hs, hn, _⟩ | ⟨rfl, hs, hn, _⟩ | ⟨rfl, hs, hn, _⟩ | ⟨rfl, hs, hn, _⟩
  all_goals
    rw [hs] at KS
    rw [hn] at KN
    clear hs hn
    go_enter Tryd.func10, Tryd.ntmps10
    go_wp2_with (first
      | (go_at_call 26; refine (KS _ _ HJ).mono ?_; rintro e w1 ⟨rfl, HJ⟩; obtain ⟨c0, c1, c2, c3, c4, c5, c6, c7, c8⟩ := HJ.cells)
      | (go_at_call 21; refine (KZ _).mono ?_; rintro e w' ⟨rfl, rfl⟩)
      | (go_at_call 27; refine (KN _ _ HJ).mono ?_; rintro e w2 ⟨rfl, HJ⟩)
      | (go_at_call 29; refine (rlow_c _ _ (by first | exact HA.out | exact HB.out | with_reducible exact w_U _) (by first | exact HA.out | exact HB.out | with_reducible exact w_U _) _).mono ?_; rintro e w' ⟨rfl, rfl⟩)
      | (go_at_call 28; refine (rbool_c _ _).mono ?_; rintro e w' ⟨rfl, rfl⟩)
      | (go_at_call 30; refine (rleft_i _ _ HA.out (by omega) (by omega) _).mono ?_; rintro e w' ⟨rfl, rfl⟩)
      | (go_at_call 31; ((with_reducible refine (KB1 _).mono ?_); rintro e w' ⟨rfl, rfl⟩))
      | (go_at_call 31; ((with_reducible refine (KI1 _).mono ?_); rintro e w' ⟨rfl, rfl⟩))
      | (go_at_call 31; ((with_reducible refine (KB2 _).mono ?_); rintro e w' ⟨rfl, rfl⟩))
      | (go_at_call 31; ((with_reducible refine (KI2 _).mono ?_); rintro e w' ⟨rfl, rfl⟩))
      | (go_at_call 31; ((with_reducible refine (KB3 _).mono ?_); rintro e w' ⟨rfl, rfl⟩))
      | (go_at_call 31; ((with_reducible refine (KI3 _).mono ?_); rintro e w' ⟨rfl, rfl⟩))
      | (go_at_call 31; ((with_reducible refine (KB4 _).mono ?_); rintro e w' ⟨rfl, rfl⟩))
      | (go_at_call 31; ((with_reducible refine (KI4 _).mono ?_); rintro e w' ⟨rfl, rfl⟩))
      | (go_at_call 32; refine (rsx32 _ (by first | with_reducible exact lefV_U _ _ | with_reducible exact w_U _ | exact HU3 _ (by omega) (by omega) | exact HU4 _ (by omega) (by omega)) _).mono ?_; rintro e w' ⟨rfl, rfl⟩))
    go_ret
  · exact ⟨ret_int (by rw [res_n 35 (by decide) (by decide), p_35]; exact w_add a (IntKind.u64.wrap imm)), HJ.1⟩
  · exact ⟨ret_int (by rw [res_n 38 (by decide) (by decide), p_38]), HJ.1⟩
  · exact ⟨ret_int (by rw [res_n 39 (by decide) (by decide), p_39]), HJ.1⟩
  · exact ⟨ret_int (by rw [res_n 40 (by decide) (by decide), p_40]; exact w_xor a (IntKind.u64.wrap imm) HA.out (w_U _)), HJ.1⟩
  · exact ⟨ret_int (by rw [res_n 43 (by decide) (by decide), p_43]; exact w_or a (IntKind.u64.wrap imm) HA.out (w_U _)), HJ.1⟩
  · exact ⟨ret_int (by rw [res_n 44 (by decide) (by decide), p_44]), HJ.1⟩
  · exact ⟨ret_int (by rw [res_n 37 (by decide) (by decide), p_37]; rw [sllV]), HJ.1⟩
  · exact ⟨ret_int (by rw [res_n 41 (by decide) (by decide), p_41]; rw [srlV, ← HR1.out]), HJ.1⟩
  · exact ⟨ret_int (by rw [res_n 42 (by decide) (by decide), p_42]; rw [sraV, ← HR2.out]), HJ.1⟩
set_option maxHeartbeats 8000000 in
theorem res_d (op : Int) (hop : 31 ≤ op ∧ op ≤ 40) : ResAt op := by
  intro i pc a b w hi hpc ha hb
  have HJ : Jn w i w.heap.size (w.alloc (.cells (insCells i) 23)) := ⟨BW.new (Below.refl _ _) _, Blk.new _ _ _, Nat.le_refl _⟩
  have KS := fun i x (h : Jn w i w.heap.size x) => (rsort_any op (by omega) (by omega) x).mono fun e w' (hh : _ ∧ _) => And.intro hh.1 (h.on hh.2)
  have KN := fun i x (h : Jn w i w.heap.size x) => (rname_any op (by omega) (by omega) x).mono fun e w' (hh : _ ∧ _) => And.intro hh.1 (h.on hh.2)
  have KZ := fun x => rzx32 a ha x
  have hzr := zxw_r a
  obtain ⟨z, hz⟩ : ∃ z, zxw a = z := ⟨_, rfl⟩
  rw [hz] at KZ hzr
  have HZ := Lib.hid hz
  have HZR := Lib.hid hzr
  have hzt : z / 2147483648 = 0 ∨ z / 2147483648 = 1 := by omega
  obtain ⟨R1, HR1⟩ : ∃ f : Int → Int, Hid (∀ x : Int, f x = rigV a 64 x.toNat 0) := ⟨fun x => rigV a 64 x.toNat 0, fun _ => rfl⟩
  obtain ⟨R2, HR2⟩ : ∃ f : Int → Int, Hid (∀ x : Int, f x = rigV a 64 x.toNat (a / 9223372036854775808)) := ⟨fun x => rigV a 64 x.toNat (a / 9223372036854775808), fun _ => rfl⟩
  obtain ⟨R3, HR3⟩ : ∃ f : Int → Int, Hid (∀ x : Int, f x = rigV z 32 x.toNat 0) := ⟨fun x => rigV z 32 x.toNat 0, fun _ => rfl⟩
  obtain ⟨R4, HR4⟩ : ∃ f : Int → Int, Hid (∀ x : Int, f x = rigV z 32 x.toNat (z / 2147483648)) := ⟨fun x => rigV z 32 x.toNat (z / 2147483648), fun _ => rfl⟩
  have KR1 := fun x h0 h1 w => rr64 a x 0 ha (.inl rfl) h0 h1 w
  have KR2 := fun x h0 h1 w => rr64 a x _ ha (top01 a ha) h0 h1 w
  have KR3 := fun x h0 h1 w => rr32 z x 0 hzr (.inl rfl) h0 h1 w
  have KR4 := fun x h0 h1 w => rr32 z x _ hzr hzt h0 h1 w
  simp only [← HR1.out] at KR1
  simp only [← HR2.out] at KR2
  simp only [← HR3.out] at KR3
  simp only [← HR4.out] at KR4
  have HU3 : ∀ x : Int, 0 ≤ x → x < 32 → U64 (R3 x) := fun x h0 h1 => by rw [HR3.out]; exact rig32_U hzr (.inl rfl) h0 h1
  have HU4 : ∀ x : Int, 0 ≤ x → x < 32 → U64 (R4 x) := fun x h0 h1 => by rw [HR4.out]; exact rig32_U hzr hzt h0 h1
  clear hz hzr hzt
  unfold insV
  obtain ⟨op', rd, rs1, rs2, imm, aq, rl, pred, succ⟩ := i
  simp only at hi ⊢
  subst hi
  unfold insCells at HJ
  simp only at HJ
  obtain ⟨c0, c1, c2, c3, c4, c5, c6, c7, c8⟩ := HJ.cells
  simp only at c0 c1 c2 c3 c4 c5 c6 c7 c8
  have t1 := tm_mod b 64 hb (by decide) (by decide)
  have t2 := tm_mod b 32 hb (by decide) (by decide)
  have t3 := tm_mod (IntKind.u64.wrap imm) 64 (w_U _) (by decide) (by decide)
  have t4 := tm_mod (IntKind.u64.wrap imm) 32 (w_U _) (by decide) (by decide)
  have KB1 := fun w => KR1 (b % 64) (by omega) (by omega) w
  have KI1 := fun w => KR1 (IntKind.u64.wrap imm % 64) (by omega) (by omega) w
  have KB2 := fun w => KR2 (b % 64) (by omega) (by omega) w
  have KI2 := fun w => KR2 (IntKind.u64.wrap imm % 64) (by omega) (by omega) w
  have KB3 := fun w => KR3 (b % 32) (by omega) (by omega) w
  have KI3 := fun w => KR3 (IntKind.u64.wrap imm % 32) (by omega) (by omega) w
  have KB4 := fun w => KR4 (b % 32) (by omega) (by omega) w
  have KI4 := fun w => KR4 (IntKind.u64.wrap imm % 32) (by omega) (by omega) w
  clear KR1 KR2 KR3 KR4
  have HA := Lib.hid ha
  have HB := Lib.hid hb
  have HP := Lib.hid hpc
  clear ha hb hpc
  rcases nfs_d hop with ⟨rfl, hs, hn, _⟩ | ⟨rfl, hs, hn, _⟩ | ⟨rfl, hs, hn, _⟩ | ⟨rfl, hs, hn, _⟩ | ⟨rfl, hs, hn, _⟩ | ⟨rfl, hs, hn, _⟩ | ⟨rfl, hs, hn, _⟩ | ⟨rfl, hs, hn, _⟩ | ⟨rfl, hs, hn, _⟩ | ⟨rfl, hs, hn, _⟩
  all_goals
    rw [hs] at KS
    rw [hn] at KN
    clear hs hn
    go_enter Tryd.func10, Tryd.ntmps10
    go_wp2_with (first
      | (go_at_call 26; refine (KS _ _ HJ).mono ?_; rintro e w1 ⟨rfl, HJ⟩; obtain ⟨c0, c1, c2, c3, c4, c5, c6, c7, c8⟩ := HJ.cells)
      | (go_at_call 21; refine (KZ _).mono ?_; rintro e w' ⟨rfl, rfl⟩)
      | (go_at_call 27; refine (KN _ _ HJ).mono ?_; rintro e w2 ⟨rfl, HJ⟩)
      | (go_at_call 29; refine (rlow_c _ _ (by first | exact HA.out | exact HB.out | with_reducible exact w_U _) (by first | exact HA.out | exact HB.out | with_reducible exact w_U _) _).mono ?_; rintro e w' ⟨rfl, rfl⟩)
      | (go_at_call 28; refine (rbool_c _ _).mono ?_; rintro e w' ⟨rfl, rfl⟩)
      | (go_at_call 30; refine (rleft_i _ _ HA.out (by omega) (by omega) _).mono ?_; rintro e w' ⟨rfl, rfl⟩)
      | (go_at_call 31; ((with_reducible refine (KB1 _).mono ?_); rintro e w' ⟨rfl, rfl⟩))
      | (go_at_call 31; ((with_reducible refine (KI1 _).mono ?_); rintro e w' ⟨rfl, rfl⟩))
      | (go_at_call 31; ((with_reducible refine (KB2 _).mono ?_); rintro e w' ⟨rfl, rfl⟩))
      | (go_at_call 31; ((with_reducible refine (KI2 _).mono ?_); rintro e w' ⟨rfl, rfl⟩))
      | (go_at_call 31; ((with_reducible refine (KB3 _).mono ?_); rintro e w' ⟨rfl, rfl⟩))
      | (go_at_call 31; ((with_reducible refine (KI3 _).mono ?_); rintro e w' ⟨rfl, rfl⟩))
      | (go_at_call 31; ((with_reducible refine (KB4 _).mono ?_); rintro e w' ⟨rfl, rfl⟩))
      | (go_at_call 31; ((with_reducible refine (KI4 _).mono ?_); rintro e w' ⟨rfl, rfl⟩))
      | (go_at_call 32; refine (rsx32 _ (by first | with_reducible exact lefV_U _ _ | with_reducible exact w_U _ | exact HU3 _ (by omega) (by omega) | exact HU4 _ (by omega) (by omega)) _).mono ?_; rintro e w' ⟨rfl, rfl⟩))
    go_ret
  · exact ⟨ret_int (by rw [res_n 45 (by decide) (by decide), p_45]; exact w_addw a (IntKind.u64.wrap imm)), HJ.1⟩
  · exact ⟨ret_int (by rw [res_n 47 (by decide) (by decide), p_47]; rw [sllwV]), HJ.1⟩
  · exact ⟨ret_int (by rw [res_n 48 (by decide) (by decide), p_48]; rw [srlwV, HZ.out, ← HR3.out]), HJ.1⟩
  · exact ⟨ret_int (by rw [res_n 49 (by decide) (by decide), p_49]; rw [srawV, HZ.out, ← HR4.out]), HJ.1⟩
  · exact ⟨ret_int (by rw [res_p (by decide), p_35]; exact w_add a b), HJ.1⟩
  · exact ⟨ret_int (by rw [res_p (by decide), p_36]; exact w_sub a b HB.out), HJ.1⟩
  · exact ⟨ret_int (by rw [res_p (by decide), p_37]; rw [sllV]), HJ.1⟩
  · exact ⟨ret_int (by rw [res_p (by decide), p_38]), HJ.1⟩
  · exact ⟨ret_int (by rw [res_p (by decide), p_39]), HJ.1⟩
  · exact ⟨ret_int (by rw [res_p (by decide), p_40]; exact w_xor a b HA.out HB.out), HJ.1⟩
set_option maxHeartbeats 8000000 in
theorem res_e (op : Int) (hop : 41 ≤ op ∧ op ≤ 49) : ResAt op := by
  intro i pc a b w hi hpc ha hb
  have HJ : Jn w i w.heap.size (w.alloc (.cells (insCells i) 23)) := ⟨BW.new (Below.refl _ _) _, Blk.new _ _ _, Nat.le_refl _⟩
  have KS := fun i x (h : Jn w i w.heap.size x) => (rsort_any op (by omega) (by omega) x).mono fun e w' (hh : _ ∧ _) => And.intro hh.1 (h.on hh.2)
  have KN := fun i x (h : Jn w i w.heap.size x) => (rname_any op (by omega) (by omega) x).mono fun e w' (hh : _ ∧ _) => And.intro hh.1 (h.on hh.2)
  have KZ := fun x => rzx32 a ha x
  have hzr := zxw_r a
  obtain ⟨z, hz⟩ : ∃ z, zxw a = z := ⟨_, rfl⟩
  rw [hz] at KZ hzr
  have HZ := Lib.hid hz
  have HZR := Lib.hid hzr
  have hzt : z / 2147483648 = 0 ∨ z / 2147483648 = 1 := by omega
  obtain ⟨R1, HR1⟩ : ∃ f : Int → Int, Hid (∀ x : Int, f x = rigV a 64 x.toNat 0) := ⟨fun x => rigV a 64 x.toNat 0, fun _ => rfl⟩
  obtain ⟨R2, HR2⟩ : ∃ f : Int → Int, Hid (∀ x : Int, f x = rigV a 64 x.toNat (a / 9223372036854775808)) := ⟨fun x => rigV a 64 x.toNat (a / 9223372036854775808), fun _ => rfl⟩
  obtain ⟨R3, HR3⟩ : ∃ f : Int → Int, Hid (∀ x : Int, f x = rigV z 32 x.toNat 0) := ⟨fun x => rigV z 32 x.toNat 0, fun _ => rfl⟩
  obtain ⟨R4, HR4⟩ : ∃ f : Int → Int, Hid (∀ x : Int, f x = rigV z 32 x.toNat (z / 2147483648)) := ⟨fun x => rigV z 32 x.toNat (z / 2147483648), fun _ => rfl⟩
  have KR1 := fun x h0 h1 w => rr64 a x 0 ha (.inl rfl) h0 h1 w
  have KR2 := fun x h0 h1 w => rr64 a x _ ha (top01 a ha) h0 h1 w
  have KR3 := fun x h0 h1 w => rr32 z x 0 hzr (.inl rfl) h0 h1 w
  have KR4 := fun x h0 h1 w => rr32 z x _ hzr hzt h0 h1 w
  simp only [← HR1.out] at KR1
  simp only [← HR2.out] at KR2
  simp only [← HR3.out] at KR3
  simp only [← HR4.out] at KR4
  have HU3 : ∀ x : Int, 0 ≤ x → x < 32 → U64 (R3 x) := fun x h0 h1 => by rw [HR3.out]; exact rig32_U hzr (.inl rfl) h0 h1
  have HU4 : ∀ x : Int, 0 ≤ x → x < 32 → U64 (R4 x) := fun x h0 h1 => by rw [HR4.out]; exact rig32_U hzr hzt h0 h1
  clear hz hzr hzt
  unfold insV
  obtain ⟨op', rd, rs1, rs2, imm, aq, rl, pred, succ⟩ := i
  simp only at hi ⊢
  subst hi
  unfold insCells at HJ
  simp only at HJ
  obtain ⟨c0, c1, c2, c3, c4, c5, c6, c7, c8⟩ := HJ.cells
  simp only at c0 c1 c2 c3 c4 c5 c6 c7 c8
  have t1 := tm_mod b 64 hb (by decide) (by decide)
  have t2 := tm_mod b 32 hb (by decide) (by decide)
  have t3 := tm_mod (IntKind.u64.wrap imm) 64 (w_U _) (by decide) (by decide)
  have t4 := tm_mod (IntKind.u64.wrap imm) 32 (w_U _) (by decide) (by decide)
  have KB1 := fun w => KR1 (b % 64) (by omega) (by omega) w
  have KI1 := fun w => KR1 (IntKind.u64.wrap imm % 64) (by omega) (by omega) w
  have KB2 := fun w => KR2 (b % 64) (by omega) (by omega) w
  have KI2 := fun w => KR2 (IntKind.u64.wrap imm % 64) (by omega) (by omega) w
  have KB3 := fun w => KR3 (b % 32) (by omega) (by omega) w
  have KI3 := fun w => KR3 (IntKind.u64.wrap imm % 32) (by omega) (by omega) w
  have KB4 := fun w => KR4 (b % 32) (by omega) (by omega) w
  have KI4 := fun w => KR4 (IntKind.u64.wrap imm % 32) (by omega) (by omega) w
  clear KR1 KR2 KR3 KR4
  have HA := Lib.hid ha
  have HB := Lib.hid hb
  have HP := Lib.hid hpc
  clear ha hb hpc
  rcases nfs_e hop with ⟨rfl, hs, hn, _⟩ | ⟨rfl, hs, hn, _⟩ | ⟨rfl, hs, hn, _⟩ | ⟨rfl, hs, hn, _⟩ | ⟨rfl, hs, hn, _⟩ | ⟨rfl, hs, hn, _⟩ | ⟨rfl, hs, hn, _⟩ | ⟨rfl, hs, hn, _⟩ | ⟨rfl, hs, hn, _⟩
  all_goals
    rw [hs] at KS
    rw [hn] at KN
    clear hs hn
    go_enter Tryd.func10, Tryd.ntmps10
    go_wp2_with (first
      | (go_at_call 26; refine (KS _ _ HJ).mono ?_; rintro e w1 ⟨rfl, HJ⟩; obtain ⟨c0, c1, c2, c3, c4, c5, c6, c7, c8⟩ := HJ.cells)
      | (go_at_call 21; refine (KZ _).mono ?_; rintro e w' ⟨rfl, rfl⟩)
      | (go_at_call 27; refine (KN _ _ HJ).mono ?_; rintro e w2 ⟨rfl, HJ⟩)
      | (go_at_call 29; refine (rlow_c _ _ (by first | exact HA.out | exact HB.out | with_reducible exact w_U _) (by first | exact HA.out | exact HB.out | with_reducible exact w_U _) _).mono ?_; rintro e w' ⟨rfl, rfl⟩)
      | (go_at_call 28; refine (rbool_c _ _).mono ?_; rintro e w' ⟨rfl, rfl⟩)
      | (go_at_call 30; refine (rleft_i _ _ HA.out (by omega) (by omega) _).mono ?_; rintro e w' ⟨rfl, rfl⟩)
      | (go_at_call 31; ((with_reducible refine (KB1 _).mono ?_); rintro e w' ⟨rfl, rfl⟩))
      | (go_at_call 31; ((with_reducible refine (KI1 _).mono ?_); rintro e w' ⟨rfl, rfl⟩))
      | (go_at_call 31; ((with_reducible refine (KB2 _).mono ?_); rintro e w' ⟨rfl, rfl⟩))
      | (go_at_call 31; ((with_reducible refine (KI2 _).mono ?_); rintro e w' ⟨rfl, rfl⟩))
      | (go_at_call 31; ((with_reducible refine (KB3 _).mono ?_); rintro e w' ⟨rfl, rfl⟩))
      | (go_at_call 31; ((with_reducible refine (KI3 _).mono ?_); rintro e w' ⟨rfl, rfl⟩))
      | (go_at_call 31; ((with_reducible refine (KB4 _).mono ?_); rintro e w' ⟨rfl, rfl⟩))
      | (go_at_call 31; ((with_reducible refine (KI4 _).mono ?_); rintro e w' ⟨rfl, rfl⟩))
      | (go_at_call 32; refine (rsx32 _ (by first | with_reducible exact lefV_U _ _ | with_reducible exact w_U _ | exact HU3 _ (by omega) (by omega) | exact HU4 _ (by omega) (by omega)) _).mono ?_; rintro e w' ⟨rfl, rfl⟩))
    go_ret
  · exact ⟨ret_int (by rw [res_p (by decide), p_41]; rw [srlV, ← HR1.out]), HJ.1⟩
  · exact ⟨ret_int (by rw [res_p (by decide), p_42]; rw [sraV, ← HR2.out]), HJ.1⟩
  · exact ⟨ret_int (by rw [res_p (by decide), p_43]; exact w_or a b HA.out HB.out), HJ.1⟩
  · exact ⟨ret_int (by rw [res_p (by decide), p_44]), HJ.1⟩
  · exact ⟨ret_int (by rw [res_p (by decide), p_45]; exact w_addw a b), HJ.1⟩
  · exact ⟨ret_int (by rw [res_p (by decide), p_46]; exact w_subw a b HB.out), HJ.1⟩
  · exact ⟨ret_int (by rw [res_p (by decide), p_47]; rw [sllwV]), HJ.1⟩
  · exact ⟨ret_int (by rw [res_p (by decide), p_48]; rw [srlwV, HZ.out, ← HR3.out]), HJ.1⟩
  · exact ⟨ret_int (by rw [res_p (by decide), p_49]; rw [srawV, HZ.out, ← HR4.out]), HJ.1⟩
set_option maxHeartbeats 8000000 in
theorem res_f (op : Int) (hop : 50 ≤ op ∧ op ≤ 57) : ResAt op := by
  intro i pc a b w hi hpc ha hb
  have HJ : Jn w i w.heap.size (w.alloc (.cells (insCells i) 23)) := ⟨BW.new (Below.refl _ _) _, Blk.new _ _ _, Nat.le_refl _⟩
  have KS := fun i x (h : Jn w i w.heap.size x) => (rsort_any op (by omega) (by omega) x).mono fun e w' (hh : _ ∧ _) => And.intro hh.1 (h.on hh.2)
  have KN := fun i x (h : Jn w i w.heap.size x) => (rname_any op (by omega) (by omega) x).mono fun e w' (hh : _ ∧ _) => And.intro hh.1 (h.on hh.2)
  have KZ := fun x => rzx32 a ha x
  have hzr := zxw_r a
  obtain ⟨z, hz⟩ : ∃ z, zxw a = z := ⟨_, rfl⟩
  rw [hz] at KZ hzr
  have HZ := Lib.hid hz
  have HZR := Lib.hid hzr
  have hzt : z / 2147483648 = 0 ∨ z / 2147483648 = 1 := by omega
  obtain ⟨R1, HR1⟩ : ∃ f : Int → Int, Hid (∀ x : Int, f x = rigV a 64 x.toNat 0) := ⟨fun x => rigV a 64 x.toNat 0, fun _ => rfl⟩
  obtain ⟨R2, HR2⟩ : ∃ f : Int → Int, Hid (∀ x : Int, f x = rigV a 64 x.toNat (a / 9223372036854775808)) := ⟨fun x => rigV a 64 x.toNat (a / 9223372036854775808), fun _ => rfl⟩
  obtain ⟨R3, HR3⟩ : ∃ f : Int → Int, Hid (∀ x : Int, f x = rigV z 32 x.toNat 0) := ⟨fun x => rigV z 32 x.toNat 0, fun _ => rfl⟩
  obtain ⟨R4, HR4⟩ : ∃ f : Int → Int, Hid (∀ x : Int, f x = rigV z 32 x.toNat (z / 2147483648)) := ⟨fun x => rigV z 32 x.toNat (z / 2147483648), fun _ => rfl⟩
  have KR1 := fun x h0 h1 w => rr64 a x 0 ha (.inl rfl) h0 h1 w
  have KR2 := fun x h0 h1 w => rr64 a x _ ha (top01 a ha) h0 h1 w
  have KR3 := fun x h0 h1 w => rr32 z x 0 hzr (.inl rfl) h0 h1 w
  have KR4 := fun x h0 h1 w => rr32 z x _ hzr hzt h0 h1 w
  simp only [← HR1.out] at KR1
  simp only [← HR2.out] at KR2
  simp only [← HR3.out] at KR3
  simp only [← HR4.out] at KR4
  have HU3 : ∀ x : Int, 0 ≤ x → x < 32 → U64 (R3 x) := fun x h0 h1 => by rw [HR3.out]; exact rig32_U hzr (.inl rfl) h0 h1
  have HU4 : ∀ x : Int, 0 ≤ x → x < 32 → U64 (R4 x) := fun x h0 h1 => by rw [HR4.out]; exact rig32_U hzr hzt h0 h1
  clear hz hzr hzt
  unfold insV
  obtain ⟨op', rd, rs1, rs2, imm, aq, rl, pred, succ⟩ := i
  simp only at hi ⊢
  subst hi
  unfold insCells at HJ
  simp only at HJ
  obtain ⟨c0, c1, c2, c3, c4, c5, c6, c7, c8⟩ := HJ.cells
  simp only at c0 c1 c2 c3 c4 c5 c6 c7 c8
  have t1 := tm_mod b 64 hb (by decide) (by decide)
  have t2 := tm_mod b 32 hb (by decide) (by decide)
  have t3 := tm_mod (IntKind.u64.wrap imm) 64 (w_U _) (by decide) (by decide)
  have t4 := tm_mod (IntKind.u64.wrap imm) 32 (w_U _) (by decide) (by decide)
  have KB1 := fun w => KR1 (b % 64) (by omega) (by omega) w
  have KI1 := fun w => KR1 (IntKind.u64.wrap imm % 64) (by omega) (by omega) w
  have KB2 := fun w => KR2 (b % 64) (by omega) (by omega) w
  have KI2 := fun w => KR2 (IntKind.u64.wrap imm % 64) (by omega) (by omega) w
  have KB3 := fun w => KR3 (b % 32) (by omega) (by omega) w
  have KI3 := fun w => KR3 (IntKind.u64.wrap imm % 32) (by omega) (by omega) w
  have KB4 := fun w => KR4 (b % 32) (by omega) (by omega) w
  have KI4 := fun w => KR4 (IntKind.u64.wrap imm % 32) (by omega) (by omega) w
  clear KR1 KR2 KR3 KR4
  have HA := Lib.hid ha
  have HB := Lib.hid hb
  have HP := Lib.hid hpc
  clear ha hb hpc
  rcases nfs_f hop with ⟨rfl, hs, hn, _⟩ | ⟨rfl, hs, hn, _⟩ | ⟨rfl, hs, hn, _⟩ | ⟨rfl, hs, hn, _⟩ | ⟨rfl, hs, hn, _⟩ | ⟨rfl, hs, hn, _⟩ | ⟨rfl, hs, hn, _⟩ | ⟨rfl, hs, hn, _⟩
  all_goals
    rw [hs] at KS
    rw [hn] at KN
    clear hs hn
    go_enter Tryd.func10, Tryd.ntmps10
    go_wp2_with (first
      | (go_at_call 26; refine (KS _ _ HJ).mono ?_; rintro e w1 ⟨rfl, HJ⟩; obtain ⟨c0, c1, c2, c3, c4, c5, c6, c7, c8⟩ := HJ.cells)
      | (go_at_call 21; refine (KZ _).mono ?_; rintro e w' ⟨rfl, rfl⟩)
      | (go_at_call 27; refine (KN _ _ HJ).mono ?_; rintro e w2 ⟨rfl, HJ⟩)
      | (go_at_call 29; refine (rlow_c _ _ (by first | exact HA.out | exact HB.out | with_reducible exact w_U _) (by first | exact HA.out | exact HB.out | with_reducible exact w_U _) _).mono ?_; rintro e w' ⟨rfl, rfl⟩)
      | (go_at_call 28; refine (rbool_c _ _).mono ?_; rintro e w' ⟨rfl, rfl⟩)
      | (go_at_call 30; refine (rleft_i _ _ HA.out (by omega) (by omega) _).mono ?_; rintro e w' ⟨rfl, rfl⟩)
      | (go_at_call 31; ((with_reducible refine (KB1 _).mono ?_); rintro e w' ⟨rfl, rfl⟩))
      | (go_at_call 31; ((with_reducible refine (KI1 _).mono ?_); rintro e w' ⟨rfl, rfl⟩))
      | (go_at_call 31; ((with_reducible refine (KB2 _).mono ?_); rintro e w' ⟨rfl, rfl⟩))
      | (go_at_call 31; ((with_reducible refine (KI2 _).mono ?_); rintro e w' ⟨rfl, rfl⟩))
      | (go_at_call 31; ((with_reducible refine (KB3 _).mono ?_); rintro e w' ⟨rfl, rfl⟩))
      | (go_at_call 31; ((with_reducible refine (KI3 _).mono ?_); rintro e w' ⟨rfl, rfl⟩))
      | (go_at_call 31; ((with_reducible refine (KB4 _).mono ?_); rintro e w' ⟨rfl, rfl⟩))
      | (go_at_call 31; ((with_reducible refine (KI4 _).mono ?_); rintro e w' ⟨rfl, rfl⟩))
      | (go_at_call 32; refine (rsx32 _ (by first | with_reducible exact lefV_U _ _ | with_reducible exact w_U _ | exact HU3 _ (by omega) (by omega) | exact HU4 _ (by omega) (by omega)) _).mono ?_; rintro e w' ⟨rfl, rfl⟩))
    go_ret
  · exact ⟨ret_int ((resV_none (by decide)).symm), HJ.1⟩
  · exact ⟨ret_int ((resV_none (by decide)).symm), HJ.1⟩
  · exact ⟨ret_int ((resV_none (by decide)).symm), HJ.1⟩
  · exact ⟨ret_int ((resV_none (by decide)).symm), HJ.1⟩
  · exact ⟨ret_int ((resV_none (by decide)).symm), HJ.1⟩
  · exact ⟨ret_int ((resV_none (by decide)).symm), HJ.1⟩
  · exact ⟨ret_int ((resV_none (by decide)).symm), HJ.1⟩
  · exact ⟨ret_int ((resV_none (by decide)).symm), HJ.1⟩
set_option maxHeartbeats 8000000 in
theorem res_g (op : Int) (hop : 58 ≤ op ∧ op ≤ 66) : ResAt op := by
  intro i pc a b w hi hpc ha hb
  have HJ : Jn w i w.heap.size (w.alloc (.cells (insCells i) 23)) := ⟨BW.new (Below.refl _ _) _, Blk.new _ _ _, Nat.le_refl _⟩
  have KS := fun i x (h : Jn w i w.heap.size x) => (rsort_any op (by omega) (by omega) x).mono fun e w' (hh : _ ∧ _) => And.intro hh.1 (h.on hh.2)
  have KN := fun i x (h : Jn w i w.heap.size x) => (rname_any op (by omega) (by omega) x).mono fun e w' (hh : _ ∧ _) => And.intro hh.1 (h.on hh.2)
  have KZ := fun x => rzx32 a ha x
  have hzr := zxw_r a
  obtain ⟨z, hz⟩ : ∃ z, zxw a = z := ⟨_, rfl⟩
  rw [hz] at KZ hzr
  have HZ := Lib.hid hz
  have HZR := Lib.hid hzr
  have hzt : z / 2147483648 = 0 ∨ z / 2147483648 = 1 := by omega
  obtain ⟨R1, HR1⟩ : ∃ f : Int → Int, Hid (∀ x : Int, f x = rigV a 64 x.toNat 0) := ⟨fun x => rigV a 64 x.toNat 0, fun _ => rfl⟩
  obtain ⟨R2, HR2⟩ : ∃ f : Int → Int, Hid (∀ x : Int, f x = rigV a 64 x.toNat (a / 9223372036854775808)) := ⟨fun x => rigV a 64 x.toNat (a / 9223372036854775808), fun _ => rfl⟩
  obtain ⟨R3, HR3⟩ : ∃ f : Int → Int, Hid (∀ x : Int, f x = rigV z 32 x.toNat 0) := ⟨fun x => rigV z 32 x.toNat 0, fun _ => rfl⟩
  obtain ⟨R4, HR4⟩ : ∃ f : Int → Int, Hid (∀ x : Int, f x = rigV z 32 x.toNat (z / 2147483648)) := ⟨fun x => rigV z 32 x.toNat (z / 2147483648), fun _ => rfl⟩
  have KR1 := fun x h0 h1 w => rr64 a x 0 ha (.inl rfl) h0 h1 w
  have KR2 := fun x h0 h1 w => rr64 a x _ ha (top01 a ha) h0 h1 w
  have KR3 := fun x h0 h1 w => rr32 z x 0 hzr (.inl rfl) h0 h1 w
  have KR4 := fun x h0 h1 w => rr32 z x _ hzr hzt h0 h1 w
  simp only [← HR1.out] at KR1
  simp only [← HR2.out] at KR2
  simp only [← HR3.out] at KR3
  simp only [← HR4.out] at KR4
  have HU3 : ∀ x : Int, 0 ≤ x → x < 32 → U64 (R3 x) := fun x h0 h1 => by rw [HR3.out]; exact rig32_U hzr (.inl rfl) h0 h1
  have HU4 : ∀ x : Int, 0 ≤ x → x < 32 → U64 (R4 x) := fun x h0 h1 => by rw [HR4.out]; exact rig32_U hzr hzt h0 h1
  clear hz hzr hzt
  unfold insV
  obtain ⟨op', rd, rs1, rs2, imm, aq, rl, pred, succ⟩ := i
  simp only at hi ⊢
  subst hi
  unfold insCells at HJ
  simp only at HJ
  obtain ⟨c0, c1, c2, c3, c4, c5, c6, c7, c8⟩ := HJ.cells
  simp only at c0 c1 c2 c3 c4 c5 c6 c7 c8
  have t1 := tm_mod b 64 hb (by decide) (by decide)
  have t2 := tm_mod b 32 hb (by decide) (by decide)
  have t3 := tm_mod (IntKind.u64.wrap imm) 64 (w_U _) (by decide) (by decide)
  have t4 := tm_mod (IntKind.u64.wrap imm) 32 (w_U _) (by decide) (by decide)
  have KB1 := fun w => KR1 (b % 64) (by omega) (by omega) w
  have KI1 := fun w => KR1 (IntKind.u64.wrap imm % 64) (by omega) (by omega) w
  have KB2 := fun w => KR2 (b % 64) (by omega) (by omega) w
  have KI2 := fun w => KR2 (IntKind.u64.wrap imm % 64) (by omega) (by omega) w
  have KB3 := fun w => KR3 (b % 32) (by omega) (by omega) w
  have KI3 := fun w => KR3 (IntKind.u64.wrap imm % 32) (by omega) (by omega) w
  have KB4 := fun w => KR4 (b % 32) (by omega) (by omega) w
  have KI4 := fun w => KR4 (IntKind.u64.wrap imm % 32) (by omega) (by omega) w
  clear KR1 KR2 KR3 KR4
  have HA := Lib.hid ha
  have HB := Lib.hid hb
  have HP := Lib.hid hpc
  clear ha hb hpc
  rcases nfs_g hop with ⟨rfl, hs, hn, _⟩ | ⟨rfl, hs, hn, _⟩ | ⟨rfl, hs, hn, _⟩ | ⟨rfl, hs, hn, _⟩ | ⟨rfl, hs, hn, _⟩ | ⟨rfl, hs, hn, _⟩ | ⟨rfl, hs, hn, _⟩ | ⟨rfl, hs, hn, _⟩ | ⟨rfl, hs, hn, _⟩
  all_goals
    rw [hs] at KS
    rw [hn] at KN
    clear hs hn
    go_enter Tryd.func10, Tryd.ntmps10
    go_wp2_with (first
      | (go_at_call 26; refine (KS _ _ HJ).mono ?_; rintro e w1 ⟨rfl, HJ⟩; obtain ⟨c0, c1, c2, c3, c4, c5, c6, c7, c8⟩ := HJ.cells)
      | (go_at_call 21; refine (KZ _).mono ?_; rintro e w' ⟨rfl, rfl⟩)
      | (go_at_call 27; refine (KN _ _ HJ).mono ?_; rintro e w2 ⟨rfl, HJ⟩)
      | (go_at_call 29; refine (rlow_c _ _ (by first | exact HA.out | exact HB.out | with_reducible exact w_U _) (by first | exact HA.out | exact HB.out | with_reducible exact w_U _) _).mono ?_; rintro e w' ⟨rfl, rfl⟩)
      | (go_at_call 28; refine (rbool_c _ _).mono ?_; rintro e w' ⟨rfl, rfl⟩)
      | (go_at_call 30; refine (rleft_i _ _ HA.out (by omega) (by omega) _).mono ?_; rintro e w' ⟨rfl, rfl⟩)
      | (go_at_call 31; ((with_reducible refine (KB1 _).mono ?_); rintro e w' ⟨rfl, rfl⟩))
      | (go_at_call 31; ((with_reducible refine (KI1 _).mono ?_); rintro e w' ⟨rfl, rfl⟩))
      | (go_at_call 31; ((with_reducible refine (KB2 _).mono ?_); rintro e w' ⟨rfl, rfl⟩))
      | (go_at_call 31; ((with_reducible refine (KI2 _).mono ?_); rintro e w' ⟨rfl, rfl⟩))
      | (go_at_call 31; ((with_reducible refine (KB3 _).mono ?_); rintro e w' ⟨rfl, rfl⟩))
      | (go_at_call 31; ((with_reducible refine (KI3 _).mono ?_); rintro e w' ⟨rfl, rfl⟩))
      | (go_at_call 31; ((with_reducible refine (KB4 _).mono ?_); rintro e w' ⟨rfl, rfl⟩))
      | (go_at_call 31; ((with_reducible refine (KI4 _).mono ?_); rintro e w' ⟨rfl, rfl⟩))
      | (go_at_call 32; refine (rsx32 _ (by first | with_reducible exact lefV_U _ _ | with_reducible exact w_U _ | exact HU3 _ (by omega) (by omega) | exact HU4 _ (by omega) (by omega)) _).mono ?_; rintro e w' ⟨rfl, rfl⟩))
    go_ret
  · exact ⟨ret_int ((resV_none (by decide)).symm), HJ.1⟩
  · exact ⟨ret_int ((resV_none (by decide)).symm), HJ.1⟩
  · exact ⟨ret_int ((resV_none (by decide)).symm), HJ.1⟩
  · exact ⟨ret_int ((resV_none (by decide)).symm), HJ.1⟩
  · exact ⟨ret_int ((resV_none (by decide)).symm), HJ.1⟩
  · exact ⟨ret_int ((resV_none (by decide)).symm), HJ.1⟩
  · exact ⟨ret_int ((resV_none (by decide)).symm), HJ.1⟩
  · exact ⟨ret_int ((resV_none (by decide)).symm), HJ.1⟩
  · exact ⟨ret_int ((resV_none (by decide)).symm), HJ.1⟩
set_option maxHeartbeats 8000000 in
theorem res_h (op : Int) (hop : 67 ≤ op ∧ op ≤ 75) : ResAt op := by
  intro i pc a b w hi hpc ha hb
  have HJ : Jn w i w.heap.size (w.alloc (.cells (insCells i) 23)) := ⟨BW.new (Below.refl _ _) _, Blk.new _ _ _, Nat.le_refl _⟩
  have KS := fun i x (h : Jn w i w.heap.size x) => (rsort_any op (by omega) (by omega) x).mono fun e w' (hh : _ ∧ _) => And.intro hh.1 (h.on hh.2)
  have KN := fun i x (h : Jn w i w.heap.size x) => (rname_any op (by omega) (by omega) x).mono fun e w' (hh : _ ∧ _) => And.intro hh.1 (h.on hh.2)
  have KZ := fun x => rzx32 a ha x
  have hzr := zxw_r a
  obtain ⟨z, hz⟩ : ∃ z, zxw a = z := ⟨_, rfl⟩
  rw [hz] at KZ hzr
  have HZ := Lib.hid hz
  have HZR := Lib.hid hzr
  have hzt : z / 2147483648 = 0 ∨ z / 2147483648 = 1 := by omega
  obtain ⟨R1, HR1⟩ : ∃ f : Int → Int, Hid (∀ x : Int, f x = rigV a 64 x.toNat 0) := ⟨fun x => rigV a 64 x.toNat 0, fun _ => rfl⟩
  obtain ⟨R2, HR2⟩ : ∃ f : Int → Int, Hid (∀ x : Int, f x = rigV a 64 x.toNat (a / 9223372036854775808)) := ⟨fun x => rigV a 64 x.toNat (a / 9223372036854775808), fun _ => rfl⟩
  obtain ⟨R3, HR3⟩ : ∃ f : Int → Int, Hid (∀ x : Int, f x = rigV z 32 x.toNat 0) := ⟨fun x => rigV z 32 x.toNat 0, fun _ => rfl⟩
  obtain ⟨R4, HR4⟩ : ∃ f : Int → Int, Hid (∀ x : Int, f x = rigV z 32 x.toNat (z / 2147483648)) := ⟨fun x => rigV z 32 x.toNat (z / 2147483648), fun _ => rfl⟩
  have KR1 := fun x h0 h1 w => rr64 a x 0 ha (.inl rfl) h0 h1 w
  have KR2 := fun x h0 h1 w => rr64 a x _ ha (top01 a ha) h0 h1 w
  have KR3 := fun x h0 h1 w => rr32 z x 0 hzr (.inl rfl) h0 h1 w
  have KR4 := fun x h0 h1 w => rr32 z x _ hzr hzt h0 h1 w
  simp only [← HR1.out] at KR1
  simp only [← HR2.out] at KR2
  simp only [← HR3.out] at KR3
  simp only [← HR4.out] at KR4
  have HU3 : ∀ x : Int, 0 ≤ x → x < 32 → U64 (R3 x) := fun x h0 h1 => by rw [HR3.out]; exact rig32_U hzr (.inl rfl) h0 h1
  have HU4 : ∀ x : Int, 0 ≤ x → x < 32 → U64 (R4 x) := fun x h0 h1 => by rw [HR4.out]; exact rig32_U hzr hzt h0 h1
  clear hz hzr hzt
  unfold insV
  obtain ⟨op', rd, rs1, rs2, imm, aq, rl, pred, succ⟩ := i
  simp only at hi ⊢
  subst hi
  unfold insCells at HJ
  simp only at HJ
  obtain ⟨c0, c1, c2, c3, c4, c5, c6, c7, c8⟩ := HJ.cells
  simp only at c0 c1 c2 c3 c4 c5 c6 c7 c8
  have t1 := tm_mod b 64 hb (by decide) (by decide)
  have t2 := tm_mod b 32 hb (by decide) (by decide)
  have t3 := tm_mod (IntKind.u64.wrap imm) 64 (w_U _) (by decide) (by decide)
  have t4 := tm_mod (IntKind.u64.wrap imm) 32 (w_U _) (by decide) (by decide)
  have KB1 := fun w => KR1 (b % 64) (by omega) (by omega) w
  have KI1 := fun w => KR1 (IntKind.u64.wrap imm % 64) (by omega) (by omega) w
  have KB2 := fun w => KR2 (b % 64) (by omega) (by omega) w
  have KI2 := fun w => KR2 (IntKind.u64.wrap imm % 64) (by omega) (by omega) w
  have KB3 := fun w => KR3 (b % 32) (by omega) (by omega) w
  have KI3 := fun w => KR3 (IntKind.u64.wrap imm % 32) (by omega) (by omega) w
  have KB4 := fun w => KR4 (b % 32) (by omega) (by omega) w
  have KI4 := fun w => KR4 (IntKind.u64.wrap imm % 32) (by omega) (by omega) w
  clear KR1 KR2 KR3 KR4
  have HA := Lib.hid ha
  have HB := Lib.hid hb
  have HP := Lib.hid hpc
  clear ha hb hpc
  rcases nfs_h hop with ⟨rfl, hs, hn, _⟩ | ⟨rfl, hs, hn, _⟩ | ⟨rfl, hs, hn, _⟩ | ⟨rfl, hs, hn, _⟩ | ⟨rfl, hs, hn, _⟩ | ⟨rfl, hs, hn, _⟩ | ⟨rfl, hs, hn, _⟩ | ⟨rfl, hs, hn, _⟩ | ⟨rfl, hs, hn, _⟩
  all_goals
    rw [hs] at KS
    rw [hn] at KN
    clear hs hn
    go_enter Tryd.func10, Tryd.ntmps10
    go_wp2_with (first
      | (go_at_call 26; refine (KS _ _ HJ).mono ?_; rintro e w1 ⟨rfl, HJ⟩; obtain ⟨c0, c1, c2, c3, c4, c5, c6, c7, c8⟩ := HJ.cells)
      | (go_at_call 21; refine (KZ _).mono ?_; rintro e w' ⟨rfl, rfl⟩)
      | (go_at_call 27; refine (KN _ _ HJ).mono ?_; rintro e w2 ⟨rfl, HJ⟩)
      | (go_at_call 29; refine (rlow_c _ _ (by first | exact HA.out | exact HB.out | with_reducible exact w_U _) (by first | exact HA.out | exact HB.out | with_reducible exact w_U _) _).mono ?_; rintro e w' ⟨rfl, rfl⟩)
      | (go_at_call 28; refine (rbool_c _ _).mono ?_; rintro e w' ⟨rfl, rfl⟩)
      | (go_at_call 30; refine (rleft_i _ _ HA.out (by omega) (by omega) _).mono ?_; rintro e w' ⟨rfl, rfl⟩)
      | (go_at_call 31; ((with_reducible refine (KB1 _).mono ?_); rintro e w' ⟨rfl, rfl⟩))
      | (go_at_call 31; ((with_reducible refine (KI1 _).mono ?_); rintro e w' ⟨rfl, rfl⟩))
      | (go_at_call 31; ((with_reducible refine (KB2 _).mono ?_); rintro e w' ⟨rfl, rfl⟩))
      | (go_at_call 31; ((with_reducible refine (KI2 _).mono ?_); rintro e w' ⟨rfl, rfl⟩))
      | (go_at_call 31; ((with_reducible refine (KB3 _).mono ?_); rintro e w' ⟨rfl, rfl⟩))
      | (go_at_call 31; ((with_reducible refine (KI3 _).mono ?_); rintro e w' ⟨rfl, rfl⟩))
      | (go_at_call 31; ((with_reducible refine (KB4 _).mono ?_); rintro e w' ⟨rfl, rfl⟩))
      | (go_at_call 31; ((with_reducible refine (KI4 _).mono ?_); rintro e w' ⟨rfl, rfl⟩))
      | (go_at_call 32; refine (rsx32 _ (by first | with_reducible exact lefV_U _ _ | with_reducible exact w_U _ | exact HU3 _ (by omega) (by omega) | exact HU4 _ (by omega) (by omega)) _).mono ?_; rintro e w' ⟨rfl, rfl⟩))
    go_ret
  · exact ⟨ret_int ((resV_none (by decide)).symm), HJ.1⟩
  · exact ⟨ret_int ((resV_none (by decide)).symm), HJ.1⟩
  · exact ⟨ret_int ((resV_none (by decide)).symm), HJ.1⟩
  · exact ⟨ret_int ((resV_none (by decide)).symm), HJ.1⟩
  · exact ⟨ret_int ((resV_none (by decide)).symm), HJ.1⟩
  · exact ⟨ret_int ((resV_none (by decide)).symm), HJ.1⟩
  · exact ⟨ret_int ((resV_none (by decide)).symm), HJ.1⟩
  · exact ⟨ret_int ((resV_none (by decide)).symm), HJ.1⟩
  · exact ⟨ret_int ((resV_none (by decide)).symm), HJ.1⟩
end Go.Proofs.YtoifkdjalddhkaaDoor
