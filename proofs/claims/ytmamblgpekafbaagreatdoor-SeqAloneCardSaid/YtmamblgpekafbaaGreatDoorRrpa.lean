/- Of stage 11. -/
import Derived.Test.YtmamblgpekafbaaGreatDoorHdpa
import Derived.Test.YtmamblgpekafbaaGreatDoorTipa
set_option maxRecDepth 100000
set_option maxHeartbeats 8000000
namespace Go.Proofs.YtmamblgpekafbaaGreatDoor
open Go.RowKit
theorem zD6 (x : Int) (h : U64 x) (w : World) : Calls Tryz.prog 42 #[.int .u64 x, .int .i64 32] w fun e w' => e = .returned (.int .u64 (zxw x)) ∧ w = w' := zh6 x 32 h.1 h.lt w
theorem zH3 (x : Int) (h : U64 x) (w : World) : Calls Tryz.prog 72 #[.int .u64 x, .int .i64 32] w fun e w' => e = .returned (.int .u64 (sxw x)) ∧ w = w' := zi6 x 32 h.1 h.lt w
def zE8 (op : Int) : Prop := ∀ (i : Ins) (pc a b : Int) (w : World), i.op = op → U64 pc → U64 a → U64 b →
  Calls Tryz.prog 47 #[insV i, .int .u64 pc, .int .u64 a, .int .u64 b] w fun e w' => e = .returned (.int .u64 (resV op i.imm pc a b)) ∧ Below w.heap.size w w'
theorem res_a (op : Int) (hop : 1 ≤ op ∧ op ≤ 10) : zE8 op := by
  intro i pc a b w hi hpc ha hb
  have HJ : Jn w i w.heap.size (w.alloc (.cells (za0 i) 39)) := ⟨BW.new (Below.refl _ _) _, Blk.new _ _ _, Nat.le_refl _⟩
  have KS := fun i x (h : Jn w i w.heap.size x) => (zf0 op (by omega) (by omega) x).mono fun e w' (hh : _ ∧ _) => And.intro hh.1 (h.on hh.2)
  have KN := fun i x (h : Jn w i w.heap.size x) => (zf6 op (by omega) (by omega) x).mono fun e w' (hh : _ ∧ _) => And.intro hh.1 (h.on hh.2)
  have KZ := fun x => zD6 a ha x
  have hzr := zy9 a
  obtain ⟨z, hz⟩ : ∃ z, zxw a = z := ⟨_, rfl⟩
  rw [hz] at KZ hzr
  have HZ := Lib.hid hz
  have HZR := Lib.hid hzr
  have hzt : z / 2147483648 = 0 ∨ z / 2147483648 = 1 := by omega
  obtain ⟨R1, HR1⟩ : ∃ f : Int → Int, Hid (∀ x : Int, f x = rigV a 64 x.toNat 0) := ⟨fun x => rigV a 64 x.toNat 0, fun _ => rfl⟩
  obtain ⟨R2, HR2⟩ : ∃ f : Int → Int, Hid (∀ x : Int, f x = rigV a 64 x.toNat (a / 9223372036854775808)) := ⟨fun x => rigV a 64 x.toNat (a / 9223372036854775808), fun _ => rfl⟩
  obtain ⟨R3, HR3⟩ : ∃ f : Int → Int, Hid (∀ x : Int, f x = rigV z 32 x.toNat 0) := ⟨fun x => rigV z 32 x.toNat 0, fun _ => rfl⟩
  obtain ⟨R4, HR4⟩ : ∃ f : Int → Int, Hid (∀ x : Int, f x = rigV z 32 x.toNat (z / 2147483648)) := ⟨fun x => rigV z 32 x.toNat (z / 2147483648), fun _ => rfl⟩
  have KR1 := fun x h0 h1 w => rr64 a x 0 ha (.inl rfl) h0 h1 w
  have KR2 := fun x h0 h1 w => rr64 a x _ ha (zy8 a ha) h0 h1 w
  have KR3 := fun x h0 h1 w => rr32 z x 0 hzr (.inl rfl) h0 h1 w
  have KR4 := fun x h0 h1 w => rr32 z x _ hzr hzt h0 h1 w
  simp only [← HR1.out] at KR1
  simp only [← HR2.out] at KR2
  simp only [← HR3.out] at KR3
  simp only [← HR4.out] at KR4
  have HU3 : ∀ x : Int, 0 ≤ x → x < 32 → U64 (R3 x) := fun x h0 h1 => by rw [HR3.out]; exact zh3 hzr (.inl rfl) h0 h1
  have HU4 : ∀ x : Int, 0 ≤ x → x < 32 → U64 (R4 x) := fun x h0 h1 => by rw [HR4.out]; exact zh3 hzr hzt h0 h1
  clear hz hzr hzt
  unfold insV
  obtain ⟨op', rd, rs1, rs2, imm, aq, rl, pred, succ⟩ := i
  simp only at hi ⊢
  subst hi
  unfold za0 at HJ
  simp only at HJ
  obtain ⟨c0, c1, c2, c3, c4, c5, c6, c7, c8⟩ := HJ.cells
  simp only at c0 c1 c2 c3 c4 c5 c6 c7 c8
  have t1 := ze5 b 64 hb (by decide) (by decide)
  have t2 := ze5 b 32 hb (by decide) (by decide)
  have t3 := ze5 (IntKind.u64.wrap imm) 64 (w_U _) (by decide) (by decide)
  have t4 := ze5 (IntKind.u64.wrap imm) 32 (w_U _) (by decide) (by decide)
  have KB1 := fun w => KR1 (b % 64) (by omega) (by omega) w
  have KI1 := fun w => KR1 (IntKind.u64.wrap imm % 64) (by omega) (by omega) w
  have KB2 := fun w => KR2 (b % 64) (by omega) (by omega) w
  have KI2 := fun w => KR2 (IntKind.u64.wrap imm % 64) (by omega) (by omega) w
  have KB3 := fun w => KR3 (b % 32) (by omega) (by omega) w
  have KI3 := fun w => KR3 (IntKind.u64.wrap imm % 32) (by omega) (by omega) w
  have KB4 := fun w => KR4 (b % 32) (by omega) (by omega) w
  have KI4 := fun w => KR4 (IntKind.u64.wrap imm % 32) (by omega) (by omega) w
  clear KR1 KR2 KR3 KR4
  have HA := Lib.hid ha
  have HB := Lib.hid hb
  have HP := Lib.hid hpc
  clear ha hb hpc
  rcases Za9 hop with ⟨rfl, hs, hn, _⟩ | ⟨rfl, hs, hn, _⟩ | ⟨rfl, hs, hn, _⟩ | ⟨rfl, hs, hn, _⟩ | ⟨rfl, hs, hn, _⟩ | ⟨rfl, hs, hn, _⟩ | ⟨rfl, hs, hn, _⟩ | ⟨rfl, hs, hn, _⟩ | ⟨rfl, hs, hn, _⟩ | ⟨rfl, hs, hn, _⟩
  all_goals
    rw [hs] at KS
    rw [hn] at KN
    clear hs hn
    go_enter Tryz.func47, Tryz.ntmps47
    go_wp2_with (first
      | (go_at_call 23; refine (KS _ _ HJ).mono ?_; rintro e w1 ⟨rfl, HJ⟩; obtain ⟨c0, c1, c2, c3, c4, c5, c6, c7, c8⟩ := HJ.cells)
      | (go_at_call 42; refine (KZ _).mono ?_; rintro e w' ⟨rfl, rfl⟩)
      | (go_at_call 41; refine (KN _ _ HJ).mono ?_; rintro e w2 ⟨rfl, HJ⟩)
      | (go_at_call 73; refine (zm8 _ _ (by first | exact HA.out | exact HB.out | with_reducible exact w_U _) (by first | exact HA.out | exact HB.out | with_reducible exact w_U _) _).mono ?_; rintro e w' ⟨rfl, rfl⟩)
      | (go_at_call 76; refine (zm9 _ _).mono ?_; rintro e w' ⟨rfl, rfl⟩)
      | (go_at_call 77; refine (zn6 _ _ HA.out (by omega) (by omega) _).mono ?_; rintro e w' ⟨rfl, rfl⟩)
      | (go_at_call 78; ((with_reducible refine (KB1 _).mono ?_); rintro e w' ⟨rfl, rfl⟩))
      | (go_at_call 78; ((with_reducible refine (KI1 _).mono ?_); rintro e w' ⟨rfl, rfl⟩))
      | (go_at_call 78; ((with_reducible refine (KB2 _).mono ?_); rintro e w' ⟨rfl, rfl⟩))
      | (go_at_call 78; ((with_reducible refine (KI2 _).mono ?_); rintro e w' ⟨rfl, rfl⟩))
      | (go_at_call 78; ((with_reducible refine (KB3 _).mono ?_); rintro e w' ⟨rfl, rfl⟩))
      | (go_at_call 78; ((with_reducible refine (KI3 _).mono ?_); rintro e w' ⟨rfl, rfl⟩))
      | (go_at_call 78; ((with_reducible refine (KB4 _).mono ?_); rintro e w' ⟨rfl, rfl⟩))
      | (go_at_call 78; ((with_reducible refine (KI4 _).mono ?_); rintro e w' ⟨rfl, rfl⟩))
      | (go_at_call 72; refine (zH3 _ (by first | with_reducible exact zr0 _ _ | with_reducible exact w_U _ | exact HU3 _ (by omega) (by omega) | exact HU4 _ (by omega) (by omega)) _).mono ?_; rintro e w' ⟨rfl, rfl⟩))
    go_ret
  · exact ⟨za1 (rfl), HJ.1⟩
  · exact ⟨za1 (zz2 _), HJ.1⟩
  · exact ⟨za1 (zz2 _), HJ.1⟩
  · exact ⟨za1 (zz2 _), HJ.1⟩
  · exact ⟨za1 ((zb1 (by decide)).symm), HJ.1⟩
  · exact ⟨za1 ((zb1 (by decide)).symm), HJ.1⟩
  · exact ⟨za1 ((zb1 (by decide)).symm), HJ.1⟩
  · exact ⟨za1 ((zb1 (by decide)).symm), HJ.1⟩
  · exact ⟨za1 ((zb1 (by decide)).symm), HJ.1⟩
  · exact ⟨za1 ((zb1 (by decide)).symm), HJ.1⟩
theorem res_b (op : Int) (hop : 11 ≤ op ∧ op ≤ 21) : zE8 op := by
  intro i pc a b w hi hpc ha hb
  have HJ : Jn w i w.heap.size (w.alloc (.cells (za0 i) 39)) := ⟨BW.new (Below.refl _ _) _, Blk.new _ _ _, Nat.le_refl _⟩
  have KS := fun i x (h : Jn w i w.heap.size x) => (zf0 op (by omega) (by omega) x).mono fun e w' (hh : _ ∧ _) => And.intro hh.1 (h.on hh.2)
  have KN := fun i x (h : Jn w i w.heap.size x) => (zf6 op (by omega) (by omega) x).mono fun e w' (hh : _ ∧ _) => And.intro hh.1 (h.on hh.2)
  have KZ := fun x => zD6 a ha x
  have hzr := zy9 a
  obtain ⟨z, hz⟩ : ∃ z, zxw a = z := ⟨_, rfl⟩
  rw [hz] at KZ hzr
  have HZ := Lib.hid hz
  have HZR := Lib.hid hzr
  have hzt : z / 2147483648 = 0 ∨ z / 2147483648 = 1 := by omega
  obtain ⟨R1, HR1⟩ : ∃ f : Int → Int, Hid (∀ x : Int, f x = rigV a 64 x.toNat 0) := ⟨fun x => rigV a 64 x.toNat 0, fun _ => rfl⟩
  obtain ⟨R2, HR2⟩ : ∃ f : Int → Int, Hid (∀ x : Int, f x = rigV a 64 x.toNat (a / 9223372036854775808)) := ⟨fun x => rigV a 64 x.toNat (a / 9223372036854775808), fun _ => rfl⟩
  obtain ⟨R3, HR3⟩ : ∃ f : Int → Int, Hid (∀ x : Int, f x = rigV z 32 x.toNat 0) := ⟨fun x => rigV z 32 x.toNat 0, fun _ => rfl⟩
  obtain ⟨R4, HR4⟩ : ∃ f : Int → Int, Hid (∀ x : Int, f x = rigV z 32 x.toNat (z / 2147483648)) := ⟨fun x => rigV z 32 x.toNat (z / 2147483648), fun _ => rfl⟩
  have KR1 := fun x h0 h1 w => rr64 a x 0 ha (.inl rfl) h0 h1 w
  have KR2 := fun x h0 h1 w => rr64 a x _ ha (zy8 a ha) h0 h1 w
  have KR3 := fun x h0 h1 w => rr32 z x 0 hzr (.inl rfl) h0 h1 w
  have KR4 := fun x h0 h1 w => rr32 z x _ hzr hzt h0 h1 w
  simp only [← HR1.out] at KR1
  simp only [← HR2.out] at KR2
  simp only [← HR3.out] at KR3
  simp only [← HR4.out] at KR4
  have HU3 : ∀ x : Int, 0 ≤ x → x < 32 → U64 (R3 x) := fun x h0 h1 => by rw [HR3.out]; exact zh3 hzr (.inl rfl) h0 h1
  have HU4 : ∀ x : Int, 0 ≤ x → x < 32 → U64 (R4 x) := fun x h0 h1 => by rw [HR4.out]; exact zh3 hzr hzt h0 h1
  clear hz hzr hzt
  unfold insV
  obtain ⟨op', rd, rs1, rs2, imm, aq, rl, pred, succ⟩ := i
  simp only at hi ⊢
  subst hi
  unfold za0 at HJ
  simp only at HJ
  obtain ⟨c0, c1, c2, c3, c4, c5, c6, c7, c8⟩ := HJ.cells
  simp only at c0 c1 c2 c3 c4 c5 c6 c7 c8
  have t1 := ze5 b 64 hb (by decide) (by decide)
  have t2 := ze5 b 32 hb (by decide) (by decide)
  have t3 := ze5 (IntKind.u64.wrap imm) 64 (w_U _) (by decide) (by decide)
  have t4 := ze5 (IntKind.u64.wrap imm) 32 (w_U _) (by decide) (by decide)
  have KB1 := fun w => KR1 (b % 64) (by omega) (by omega) w
  have KI1 := fun w => KR1 (IntKind.u64.wrap imm % 64) (by omega) (by omega) w
  have KB2 := fun w => KR2 (b % 64) (by omega) (by omega) w
  have KI2 := fun w => KR2 (IntKind.u64.wrap imm % 64) (by omega) (by omega) w
  have KB3 := fun w => KR3 (b % 32) (by omega) (by omega) w
  have KI3 := fun w => KR3 (IntKind.u64.wrap imm % 32) (by omega) (by omega) w
  have KB4 := fun w => KR4 (b % 32) (by omega) (by omega) w
  have KI4 := fun w => KR4 (IntKind.u64.wrap imm % 32) (by omega) (by omega) w
  clear KR1 KR2 KR3 KR4
  have HA := Lib.hid ha
  have HB := Lib.hid hb
  have HP := Lib.hid hpc
  clear ha hb hpc
  rcases zZ4 hop with ⟨rfl, hs, hn, _⟩ | ⟨rfl, hs, hn, _⟩ | ⟨rfl, hs, hn, _⟩ | ⟨rfl, hs, hn, _⟩ | ⟨rfl, hs, hn, _⟩ | ⟨rfl, hs, hn, _⟩ | ⟨rfl, hs, hn, _⟩ | ⟨rfl, hs, hn, _⟩ | ⟨rfl, hs, hn, _⟩ | ⟨rfl, hs, hn, _⟩ | ⟨rfl, hs, hn, _⟩
  all_goals
    rw [hs] at KS
    rw [hn] at KN
    clear hs hn
    go_enter Tryz.func47, Tryz.ntmps47
    go_wp2_with (first
      | (go_at_call 23; refine (KS _ _ HJ).mono ?_; rintro e w1 ⟨rfl, HJ⟩; obtain ⟨c0, c1, c2, c3, c4, c5, c6, c7, c8⟩ := HJ.cells)
      | (go_at_call 42; refine (KZ _).mono ?_; rintro e w' ⟨rfl, rfl⟩)
      | (go_at_call 41; refine (KN _ _ HJ).mono ?_; rintro e w2 ⟨rfl, HJ⟩)
      | (go_at_call 73; refine (zm8 _ _ (by first | exact HA.out | exact HB.out | with_reducible exact w_U _) (by first | exact HA.out | exact HB.out | with_reducible exact w_U _) _).mono ?_; rintro e w' ⟨rfl, rfl⟩)
      | (go_at_call 76; refine (zm9 _ _).mono ?_; rintro e w' ⟨rfl, rfl⟩)
      | (go_at_call 77; refine (zn6 _ _ HA.out (by omega) (by omega) _).mono ?_; rintro e w' ⟨rfl, rfl⟩)
      | (go_at_call 78; ((with_reducible refine (KB1 _).mono ?_); rintro e w' ⟨rfl, rfl⟩))
      | (go_at_call 78; ((with_reducible refine (KI1 _).mono ?_); rintro e w' ⟨rfl, rfl⟩))
      | (go_at_call 78; ((with_reducible refine (KB2 _).mono ?_); rintro e w' ⟨rfl, rfl⟩))
      | (go_at_call 78; ((with_reducible refine (KI2 _).mono ?_); rintro e w' ⟨rfl, rfl⟩))
      | (go_at_call 78; ((with_reducible refine (KB3 _).mono ?_); rintro e w' ⟨rfl, rfl⟩))
      | (go_at_call 78; ((with_reducible refine (KI3 _).mono ?_); rintro e w' ⟨rfl, rfl⟩))
      | (go_at_call 78; ((with_reducible refine (KB4 _).mono ?_); rintro e w' ⟨rfl, rfl⟩))
      | (go_at_call 78; ((with_reducible refine (KI4 _).mono ?_); rintro e w' ⟨rfl, rfl⟩))
      | (go_at_call 72; refine (zH3 _ (by first | with_reducible exact zr0 _ _ | with_reducible exact w_U _ | exact HU3 _ (by omega) (by omega) | exact HU4 _ (by omega) (by omega)) _).mono ?_; rintro e w' ⟨rfl, rfl⟩))
    go_ret
  · exact ⟨za1 ((zb1 (by decide)).symm), HJ.1⟩
  · exact ⟨za1 ((zb1 (by decide)).symm), HJ.1⟩
  · exact ⟨za1 ((zb1 (by decide)).symm), HJ.1⟩
  · exact ⟨za1 ((zb1 (by decide)).symm), HJ.1⟩
  · exact ⟨za1 ((zb1 (by decide)).symm), HJ.1⟩
  · exact ⟨za1 ((zb1 (by decide)).symm), HJ.1⟩
  · exact ⟨za1 ((zb1 (by decide)).symm), HJ.1⟩
  · exact ⟨za1 ((zb1 (by decide)).symm), HJ.1⟩
  · exact ⟨za1 ((zb1 (by decide)).symm), HJ.1⟩
  · exact ⟨za1 ((zb1 (by decide)).symm), HJ.1⟩
  · exact ⟨za1 ((zb1 (by decide)).symm), HJ.1⟩
theorem res_c (op : Int) (hop : 22 ≤ op ∧ op ≤ 30) : zE8 op := by
  intro i pc a b w hi hpc ha hb
  have HJ : Jn w i w.heap.size (w.alloc (.cells (za0 i) 39)) := ⟨BW.new (Below.refl _ _) _, Blk.new _ _ _, Nat.le_refl _⟩
  have KS := fun i x (h : Jn w i w.heap.size x) => (zf0 op (by omega) (by omega) x).mono fun e w' (hh : _ ∧ _) => And.intro hh.1 (h.on hh.2)
  have KN := fun i x (h : Jn w i w.heap.size x) => (zf6 op (by omega) (by omega) x).mono fun e w' (hh : _ ∧ _) => And.intro hh.1 (h.on hh.2)
  have KZ := fun x => zD6 a ha x
  have hzr := zy9 a
  obtain ⟨z, hz⟩ : ∃ z, zxw a = z := ⟨_, rfl⟩
  rw [hz] at KZ hzr
  have HZ := Lib.hid hz
  have HZR := Lib.hid hzr
  have hzt : z / 2147483648 = 0 ∨ z / 2147483648 = 1 := by omega
  obtain ⟨R1, HR1⟩ : ∃ f : Int → Int, Hid (∀ x : Int, f x = rigV a 64 x.toNat 0) := ⟨fun x => rigV a 64 x.toNat 0, fun _ => rfl⟩
  obtain ⟨R2, HR2⟩ : ∃ f : Int → Int, Hid (∀ x : Int, f x = rigV a 64 x.toNat (a / 9223372036854775808)) := ⟨fun x => rigV a 64 x.toNat (a / 9223372036854775808), fun _ => rfl⟩
  obtain ⟨R3, HR3⟩ : ∃ f : Int → Int, Hid (∀ x : Int, f x = rigV z 32 x.toNat 0) := ⟨fun x => rigV z 32 x.toNat 0, fun _ => rfl⟩
  obtain ⟨R4, HR4⟩ : ∃ f : Int → Int, Hid (∀ x : Int, f x = rigV z 32 x.toNat (z / 2147483648)) := ⟨fun x => rigV z 32 x.toNat (z / 2147483648), fun _ => rfl⟩
  have KR1 := fun x h0 h1 w => rr64 a x 0 ha (.inl rfl) h0 h1 w
  have KR2 := fun x h0 h1 w => rr64 a x _ ha (zy8 a ha) h0 h1 w
  have KR3 := fun x h0 h1 w => rr32 z x 0 hzr (.inl rfl) h0 h1 w
  have KR4 := fun x h0 h1 w => rr32 z x _ hzr hzt h0 h1 w
  simp only [← HR1.out] at KR1
  simp only [← HR2.out] at KR2
  simp only [← HR3.out] at KR3
  simp only [← HR4.out] at KR4
  have HU3 : ∀ x : Int, 0 ≤ x → x < 32 → U64 (R3 x) := fun x h0 h1 => by rw [HR3.out]; exact zh3 hzr (.inl rfl) h0 h1
  have HU4 : ∀ x : Int, 0 ≤ x → x < 32 → U64 (R4 x) := fun x h0 h1 => by rw [HR4.out]; exact zh3 hzr hzt h0 h1
  clear hz hzr hzt
  unfold insV
  obtain ⟨op', rd, rs1, rs2, imm, aq, rl, pred, succ⟩ := i
  simp only at hi ⊢
  subst hi
  unfold za0 at HJ
  simp only at HJ
  obtain ⟨c0, c1, c2, c3, c4, c5, c6, c7, c8⟩ := HJ.cells
  simp only at c0 c1 c2 c3 c4 c5 c6 c7 c8
  have t1 := ze5 b 64 hb (by decide) (by decide)
  have t2 := ze5 b 32 hb (by decide) (by decide)
  have t3 := ze5 (IntKind.u64.wrap imm) 64 (w_U _) (by decide) (by decide)
  have t4 := ze5 (IntKind.u64.wrap imm) 32 (w_U _) (by decide) (by decide)
  have KB1 := fun w => KR1 (b % 64) (by omega) (by omega) w
  have KI1 := fun w => KR1 (IntKind.u64.wrap imm % 64) (by omega) (by omega) w
  have KB2 := fun w => KR2 (b % 64) (by omega) (by omega) w
  have KI2 := fun w => KR2 (IntKind.u64.wrap imm % 64) (by omega) (by omega) w
  have KB3 := fun w => KR3 (b % 32) (by omega) (by omega) w
  have KI3 := fun w => KR3 (IntKind.u64.wrap imm % 32) (by omega) (by omega) w
  have KB4 := fun w => KR4 (b % 32) (by omega) (by omega) w
  have KI4 := fun w => KR4 (IntKind.u64.wrap imm % 32) (by omega) (by omega) w
  clear KR1 KR2 KR3 KR4
  have HA := Lib.hid ha
  have HB := Lib.hid hb
  have HP := Lib.hid hpc
  clear ha hb hpc
  rcases Zc9 hop with ⟨rfl, hs, hn, _⟩ | ⟨rfl, hs, hn, _⟩ | ⟨rfl, hs, hn, _⟩ | ⟨rfl, hs, hn, _⟩ | ⟨rfl, hs, hn, _⟩ | ⟨rfl, hs, hn, _⟩ | ⟨rfl, hs, hn, _⟩ | ⟨rfl, hs, hn, _⟩ | ⟨rfl, hs, hn, _⟩
  all_goals
    rw [hs] at KS
    rw [hn] at KN
    clear hs hn
    go_enter Tryz.func47, Tryz.ntmps47
    go_wp2_with (first
      | (go_at_call 23; refine (KS _ _ HJ).mono ?_; rintro e w1 ⟨rfl, HJ⟩; obtain ⟨c0, c1, c2, c3, c4, c5, c6, c7, c8⟩ := HJ.cells)
      | (go_at_call 42; refine (KZ _).mono ?_; rintro e w' ⟨rfl, rfl⟩)
      | (go_at_call 41; refine (KN _ _ HJ).mono ?_; rintro e w2 ⟨rfl, HJ⟩)
      | (go_at_call 73; refine (zm8 _ _ (by first | exact HA.out | exact HB.out | with_reducible exact w_U _) (by first | exact HA.out | exact HB.out | with_reducible exact w_U _) _).mono ?_; rintro e w' ⟨rfl, rfl⟩)
      | (go_at_call 76; refine (zm9 _ _).mono ?_; rintro e w' ⟨rfl, rfl⟩)
      | (go_at_call 77; refine (zn6 _ _ HA.out (by omega) (by omega) _).mono ?_; rintro e w' ⟨rfl, rfl⟩)
      | (go_at_call 78; ((with_reducible refine (KB1 _).mono ?_); rintro e w' ⟨rfl, rfl⟩))
      | (go_at_call 78; ((with_reducible refine (KI1 _).mono ?_); rintro e w' ⟨rfl, rfl⟩))
      | (go_at_call 78; ((with_reducible refine (KB2 _).mono ?_); rintro e w' ⟨rfl, rfl⟩))
      | (go_at_call 78; ((with_reducible refine (KI2 _).mono ?_); rintro e w' ⟨rfl, rfl⟩))
      | (go_at_call 78; ((with_reducible refine (KB3 _).mono ?_); rintro e w' ⟨rfl, rfl⟩))
      | (go_at_call 78; ((with_reducible refine (KI3 _).mono ?_); rintro e w' ⟨rfl, rfl⟩))
      | (go_at_call 78; ((with_reducible refine (KB4 _).mono ?_); rintro e w' ⟨rfl, rfl⟩))
      | (go_at_call 78; ((with_reducible refine (KI4 _).mono ?_); rintro e w' ⟨rfl, rfl⟩))
      | (go_at_call 72; refine (zH3 _ (by first | with_reducible exact zr0 _ _ | with_reducible exact w_U _ | exact HU3 _ (by omega) (by omega) | exact HU4 _ (by omega) (by omega)) _).mono ?_; rintro e w' ⟨rfl, rfl⟩))
    go_ret
  · exact ⟨za1 (by rw [zs3 35 (by decide) (by decide), p_35]; exact w_add a (IntKind.u64.wrap imm)), HJ.1⟩
  · exact ⟨za1 (by rw [zs3 38 (by decide) (by decide), p_38]), HJ.1⟩
  · exact ⟨za1 (by rw [zs3 39 (by decide) (by decide), p_39]), HJ.1⟩
  · exact ⟨za1 (by rw [zs3 40 (by decide) (by decide), p_40]; exact w_xor a (IntKind.u64.wrap imm) HA.out (w_U _)), HJ.1⟩
  · exact ⟨za1 (by rw [zs3 43 (by decide) (by decide), p_43]; exact w_or a (IntKind.u64.wrap imm) HA.out (w_U _)), HJ.1⟩
  · exact ⟨za1 (by rw [zs3 44 (by decide) (by decide), p_44]), HJ.1⟩
  · exact ⟨za1 (by rw [zs3 37 (by decide) (by decide), p_37]; rw [sllV]), HJ.1⟩
  · exact ⟨za1 (by rw [zs3 41 (by decide) (by decide), p_41]; rw [srlV, ← HR1.out]), HJ.1⟩
  · exact ⟨za1 (by rw [zs3 42 (by decide) (by decide), p_42]; rw [sraV, ← HR2.out]), HJ.1⟩
theorem res_d (op : Int) (hop : 31 ≤ op ∧ op ≤ 40) : zE8 op := by
  intro i pc a b w hi hpc ha hb
  have HJ : Jn w i w.heap.size (w.alloc (.cells (za0 i) 39)) := ⟨BW.new (Below.refl _ _) _, Blk.new _ _ _, Nat.le_refl _⟩
  have KS := fun i x (h : Jn w i w.heap.size x) => (zf0 op (by omega) (by omega) x).mono fun e w' (hh : _ ∧ _) => And.intro hh.1 (h.on hh.2)
  have KN := fun i x (h : Jn w i w.heap.size x) => (zf6 op (by omega) (by omega) x).mono fun e w' (hh : _ ∧ _) => And.intro hh.1 (h.on hh.2)
  have KZ := fun x => zD6 a ha x
  have hzr := zy9 a
  obtain ⟨z, hz⟩ : ∃ z, zxw a = z := ⟨_, rfl⟩
  rw [hz] at KZ hzr
  have HZ := Lib.hid hz
  have HZR := Lib.hid hzr
  have hzt : z / 2147483648 = 0 ∨ z / 2147483648 = 1 := by omega
  obtain ⟨R1, HR1⟩ : ∃ f : Int → Int, Hid (∀ x : Int, f x = rigV a 64 x.toNat 0) := ⟨fun x => rigV a 64 x.toNat 0, fun _ => rfl⟩
  obtain ⟨R2, HR2⟩ : ∃ f : Int → Int, Hid (∀ x : Int, f x = rigV a 64 x.toNat (a / 9223372036854775808)) := ⟨fun x => rigV a 64 x.toNat (a / 9223372036854775808), fun _ => rfl⟩
  obtain ⟨R3, HR3⟩ : ∃ f : Int → Int, Hid (∀ x : Int, f x = rigV z 32 x.toNat 0) := ⟨fun x => rigV z 32 x.toNat 0, fun _ => rfl⟩
  obtain ⟨R4, HR4⟩ : ∃ f : Int → Int, Hid (∀ x : Int, f x = rigV z 32 x.toNat (z / 2147483648)) := ⟨fun x => rigV z 32 x.toNat (z / 2147483648), fun _ => rfl⟩
  have KR1 := fun x h0 h1 w => rr64 a x 0 ha (.inl rfl) h0 h1 w
  have KR2 := fun x h0 h1 w => rr64 a x _ ha (zy8 a ha) h0 h1 w
  have KR3 := fun x h0 h1 w => rr32 z x 0 hzr (.inl rfl) h0 h1 w
  have KR4 := fun x h0 h1 w => rr32 z x _ hzr hzt h0 h1 w
  simp only [← HR1.out] at KR1
  simp only [← HR2.out] at KR2
  simp only [← HR3.out] at KR3
  simp only [← HR4.out] at KR4
  have HU3 : ∀ x : Int, 0 ≤ x → x < 32 → U64 (R3 x) := fun x h0 h1 => by rw [HR3.out]; exact zh3 hzr (.inl rfl) h0 h1
  have HU4 : ∀ x : Int, 0 ≤ x → x < 32 → U64 (R4 x) := fun x h0 h1 => by rw [HR4.out]; exact zh3 hzr hzt h0 h1
  clear hz hzr hzt
  unfold insV
  obtain ⟨op', rd, rs1, rs2, imm, aq, rl, pred, succ⟩ := i
  simp only at hi ⊢
  subst hi
  unfold za0 at HJ
  simp only at HJ
  obtain ⟨c0, c1, c2, c3, c4, c5, c6, c7, c8⟩ := HJ.cells
  simp only at c0 c1 c2 c3 c4 c5 c6 c7 c8
  have t1 := ze5 b 64 hb (by decide) (by decide)
  have t2 := ze5 b 32 hb (by decide) (by decide)
  have t3 := ze5 (IntKind.u64.wrap imm) 64 (w_U _) (by decide) (by decide)
  have t4 := ze5 (IntKind.u64.wrap imm) 32 (w_U _) (by decide) (by decide)
  have KB1 := fun w => KR1 (b % 64) (by omega) (by omega) w
  have KI1 := fun w => KR1 (IntKind.u64.wrap imm % 64) (by omega) (by omega) w
  have KB2 := fun w => KR2 (b % 64) (by omega) (by omega) w
  have KI2 := fun w => KR2 (IntKind.u64.wrap imm % 64) (by omega) (by omega) w
  have KB3 := fun w => KR3 (b % 32) (by omega) (by omega) w
  have KI3 := fun w => KR3 (IntKind.u64.wrap imm % 32) (by omega) (by omega) w
  have KB4 := fun w => KR4 (b % 32) (by omega) (by omega) w
  have KI4 := fun w => KR4 (IntKind.u64.wrap imm % 32) (by omega) (by omega) w
  clear KR1 KR2 KR3 KR4
  have HA := Lib.hid ha
  have HB := Lib.hid hb
  have HP := Lib.hid hpc
  clear ha hb hpc
  rcases Zg3 hop with ⟨rfl, hs, hn, _⟩ | ⟨rfl, hs, hn, _⟩ | ⟨rfl, hs, hn, _⟩ | ⟨rfl, hs, hn, _⟩ | ⟨rfl, hs, hn, _⟩ | ⟨rfl, hs, hn, _⟩ | ⟨rfl, hs, hn, _⟩ | ⟨rfl, hs, hn, _⟩ | ⟨rfl, hs, hn, _⟩ | ⟨rfl, hs, hn, _⟩
  all_goals
    rw [hs] at KS
    rw [hn] at KN
    clear hs hn
    go_enter Tryz.func47, Tryz.ntmps47
    go_wp2_with (first
      | (go_at_call 23; refine (KS _ _ HJ).mono ?_; rintro e w1 ⟨rfl, HJ⟩; obtain ⟨c0, c1, c2, c3, c4, c5, c6, c7, c8⟩ := HJ.cells)
      | (go_at_call 42; refine (KZ _).mono ?_; rintro e w' ⟨rfl, rfl⟩)
      | (go_at_call 41; refine (KN _ _ HJ).mono ?_; rintro e w2 ⟨rfl, HJ⟩)
      | (go_at_call 73; refine (zm8 _ _ (by first | exact HA.out | exact HB.out | with_reducible exact w_U _) (by first | exact HA.out | exact HB.out | with_reducible exact w_U _) _).mono ?_; rintro e w' ⟨rfl, rfl⟩)
      | (go_at_call 76; refine (zm9 _ _).mono ?_; rintro e w' ⟨rfl, rfl⟩)
      | (go_at_call 77; refine (zn6 _ _ HA.out (by omega) (by omega) _).mono ?_; rintro e w' ⟨rfl, rfl⟩)
      | (go_at_call 78; ((with_reducible refine (KB1 _).mono ?_); rintro e w' ⟨rfl, rfl⟩))
      | (go_at_call 78; ((with_reducible refine (KI1 _).mono ?_); rintro e w' ⟨rfl, rfl⟩))
      | (go_at_call 78; ((with_reducible refine (KB2 _).mono ?_); rintro e w' ⟨rfl, rfl⟩))
      | (go_at_call 78; ((with_reducible refine (KI2 _).mono ?_); rintro e w' ⟨rfl, rfl⟩))
      | (go_at_call 78; ((with_reducible refine (KB3 _).mono ?_); rintro e w' ⟨rfl, rfl⟩))
      | (go_at_call 78; ((with_reducible refine (KI3 _).mono ?_); rintro e w' ⟨rfl, rfl⟩))
      | (go_at_call 78; ((with_reducible refine (KB4 _).mono ?_); rintro e w' ⟨rfl, rfl⟩))
      | (go_at_call 78; ((with_reducible refine (KI4 _).mono ?_); rintro e w' ⟨rfl, rfl⟩))
      | (go_at_call 72; refine (zH3 _ (by first | with_reducible exact zr0 _ _ | with_reducible exact w_U _ | exact HU3 _ (by omega) (by omega) | exact HU4 _ (by omega) (by omega)) _).mono ?_; rintro e w' ⟨rfl, rfl⟩))
    go_ret
  · exact ⟨za1 (by rw [zs3 45 (by decide) (by decide), p_45]; exact w_addw a (IntKind.u64.wrap imm)), HJ.1⟩
  · exact ⟨za1 (by rw [zs3 47 (by decide) (by decide), p_47]; rw [sllwV]), HJ.1⟩
  · exact ⟨za1 (by rw [zs3 48 (by decide) (by decide), p_48]; rw [srlwV, HZ.out, ← HR3.out]), HJ.1⟩
  · exact ⟨za1 (by rw [zs3 49 (by decide) (by decide), p_49]; rw [srawV, HZ.out, ← HR4.out]), HJ.1⟩
  · exact ⟨za1 (by rw [zp1 (by decide), p_35]; exact w_add a b), HJ.1⟩
  · exact ⟨za1 (by rw [zp1 (by decide), p_36]; exact w_sub a b HB.out), HJ.1⟩
  · exact ⟨za1 (by rw [zp1 (by decide), p_37]; rw [sllV]), HJ.1⟩
  · exact ⟨za1 (by rw [zp1 (by decide), p_38]), HJ.1⟩
  · exact ⟨za1 (by rw [zp1 (by decide), p_39]), HJ.1⟩
  · exact ⟨za1 (by rw [zp1 (by decide), p_40]; exact w_xor a b HA.out HB.out), HJ.1⟩
theorem res_e (op : Int) (hop : 41 ≤ op ∧ op ≤ 49) : zE8 op := by
  intro i pc a b w hi hpc ha hb
  have HJ : Jn w i w.heap.size (w.alloc (.cells (za0 i) 39)) := ⟨BW.new (Below.refl _ _) _, Blk.new _ _ _, Nat.le_refl _⟩
  have KS := fun i x (h : Jn w i w.heap.size x) => (zf0 op (by omega) (by omega) x).mono fun e w' (hh : _ ∧ _) => And.intro hh.1 (h.on hh.2)
  have KN := fun i x (h : Jn w i w.heap.size x) => (zf6 op (by omega) (by omega) x).mono fun e w' (hh : _ ∧ _) => And.intro hh.1 (h.on hh.2)
  have KZ := fun x => zD6 a ha x
  have hzr := zy9 a
  obtain ⟨z, hz⟩ : ∃ z, zxw a = z := ⟨_, rfl⟩
  rw [hz] at KZ hzr
  have HZ := Lib.hid hz
  have HZR := Lib.hid hzr
  have hzt : z / 2147483648 = 0 ∨ z / 2147483648 = 1 := by omega
  obtain ⟨R1, HR1⟩ : ∃ f : Int → Int, Hid (∀ x : Int, f x = rigV a 64 x.toNat 0) := ⟨fun x => rigV a 64 x.toNat 0, fun _ => rfl⟩
  obtain ⟨R2, HR2⟩ : ∃ f : Int → Int, Hid (∀ x : Int, f x = rigV a 64 x.toNat (a / 9223372036854775808)) := ⟨fun x => rigV a 64 x.toNat (a / 9223372036854775808), fun _ => rfl⟩
  obtain ⟨R3, HR3⟩ : ∃ f : Int → Int, Hid (∀ x : Int, f x = rigV z 32 x.toNat 0) := ⟨fun x => rigV z 32 x.toNat 0, fun _ => rfl⟩
  obtain ⟨R4, HR4⟩ : ∃ f : Int → Int, Hid (∀ x : Int, f x = rigV z 32 x.toNat (z / 2147483648)) := ⟨fun x => rigV z 32 x.toNat (z / 2147483648), fun _ => rfl⟩
  have KR1 := fun x h0 h1 w => rr64 a x 0 ha (.inl rfl) h0 h1 w
  have KR2 := fun x h0 h1 w => rr64 a x _ ha (zy8 a ha) h0 h1 w
  have KR3 := fun x h0 h1 w => rr32 z x 0 hzr (.inl rfl) h0 h1 w
  have KR4 := fun x h0 h1 w => rr32 z x _ hzr hzt h0 h1 w
  simp only [← HR1.out] at KR1
  simp only [← HR2.out] at KR2
  simp only [← HR3.out] at KR3
  simp only [← HR4.out] at KR4
  have HU3 : ∀ x : Int, 0 ≤ x → x < 32 → U64 (R3 x) := fun x h0 h1 => by rw [HR3.out]; exact zh3 hzr (.inl rfl) h0 h1
  have HU4 : ∀ x : Int, 0 ≤ x → x < 32 → U64 (R4 x) := fun x h0 h1 => by rw [HR4.out]; exact zh3 hzr hzt h0 h1
  clear hz hzr hzt
  unfold insV
  obtain ⟨op', rd, rs1, rs2, imm, aq, rl, pred, succ⟩ := i
  simp only at hi ⊢
  subst hi
  unfold za0 at HJ
  simp only at HJ
  obtain ⟨c0, c1, c2, c3, c4, c5, c6, c7, c8⟩ := HJ.cells
  simp only at c0 c1 c2 c3 c4 c5 c6 c7 c8
  have t1 := ze5 b 64 hb (by decide) (by decide)
  have t2 := ze5 b 32 hb (by decide) (by decide)
  have t3 := ze5 (IntKind.u64.wrap imm) 64 (w_U _) (by decide) (by decide)
  have t4 := ze5 (IntKind.u64.wrap imm) 32 (w_U _) (by decide) (by decide)
  have KB1 := fun w => KR1 (b % 64) (by omega) (by omega) w
  have KI1 := fun w => KR1 (IntKind.u64.wrap imm % 64) (by omega) (by omega) w
  have KB2 := fun w => KR2 (b % 64) (by omega) (by omega) w
  have KI2 := fun w => KR2 (IntKind.u64.wrap imm % 64) (by omega) (by omega) w
  have KB3 := fun w => KR3 (b % 32) (by omega) (by omega) w
  have KI3 := fun w => KR3 (IntKind.u64.wrap imm % 32) (by omega) (by omega) w
  have KB4 := fun w => KR4 (b % 32) (by omega) (by omega) w
  have KI4 := fun w => KR4 (IntKind.u64.wrap imm % 32) (by omega) (by omega) w
  clear KR1 KR2 KR3 KR4
  have HA := Lib.hid ha
  have HB := Lib.hid hb
  have HP := Lib.hid hpc
  clear ha hb hpc
  rcases Zm7 hop with ⟨rfl, hs, hn, _⟩ | ⟨rfl, hs, hn, _⟩ | ⟨rfl, hs, hn, _⟩ | ⟨rfl, hs, hn, _⟩ | ⟨rfl, hs, hn, _⟩ | ⟨rfl, hs, hn, _⟩ | ⟨rfl, hs, hn, _⟩ | ⟨rfl, hs, hn, _⟩ | ⟨rfl, hs, hn, _⟩
  all_goals
    rw [hs] at KS
    rw [hn] at KN
    clear hs hn
    go_enter Tryz.func47, Tryz.ntmps47
    go_wp2_with (first
      | (go_at_call 23; refine (KS _ _ HJ).mono ?_; rintro e w1 ⟨rfl, HJ⟩; obtain ⟨c0, c1, c2, c3, c4, c5, c6, c7, c8⟩ := HJ.cells)
      | (go_at_call 42; refine (KZ _).mono ?_; rintro e w' ⟨rfl, rfl⟩)
      | (go_at_call 41; refine (KN _ _ HJ).mono ?_; rintro e w2 ⟨rfl, HJ⟩)
      | (go_at_call 73; refine (zm8 _ _ (by first | exact HA.out | exact HB.out | with_reducible exact w_U _) (by first | exact HA.out | exact HB.out | with_reducible exact w_U _) _).mono ?_; rintro e w' ⟨rfl, rfl⟩)
      | (go_at_call 76; refine (zm9 _ _).mono ?_; rintro e w' ⟨rfl, rfl⟩)
      | (go_at_call 77; refine (zn6 _ _ HA.out (by omega) (by omega) _).mono ?_; rintro e w' ⟨rfl, rfl⟩)
      | (go_at_call 78; ((with_reducible refine (KB1 _).mono ?_); rintro e w' ⟨rfl, rfl⟩))
      | (go_at_call 78; ((with_reducible refine (KI1 _).mono ?_); rintro e w' ⟨rfl, rfl⟩))
      | (go_at_call 78; ((with_reducible refine (KB2 _).mono ?_); rintro e w' ⟨rfl, rfl⟩))
      | (go_at_call 78; ((with_reducible refine (KI2 _).mono ?_); rintro e w' ⟨rfl, rfl⟩))
      | (go_at_call 78; ((with_reducible refine (KB3 _).mono ?_); rintro e w' ⟨rfl, rfl⟩))
      | (go_at_call 78; ((with_reducible refine (KI3 _).mono ?_); rintro e w' ⟨rfl, rfl⟩))
      | (go_at_call 78; ((with_reducible refine (KB4 _).mono ?_); rintro e w' ⟨rfl, rfl⟩))
      | (go_at_call 78; ((with_reducible refine (KI4 _).mono ?_); rintro e w' ⟨rfl, rfl⟩))
      | (go_at_call 72; refine (zH3 _ (by first | with_reducible exact zr0 _ _ | with_reducible exact w_U _ | exact HU3 _ (by omega) (by omega) | exact HU4 _ (by omega) (by omega)) _).mono ?_; rintro e w' ⟨rfl, rfl⟩))
    go_ret
  · exact ⟨za1 (by rw [zp1 (by decide), p_41]; rw [srlV, ← HR1.out]), HJ.1⟩
  · exact ⟨za1 (by rw [zp1 (by decide), p_42]; rw [sraV, ← HR2.out]), HJ.1⟩
  · exact ⟨za1 (by rw [zp1 (by decide), p_43]; exact w_or a b HA.out HB.out), HJ.1⟩
  · exact ⟨za1 (by rw [zp1 (by decide), p_44]), HJ.1⟩
  · exact ⟨za1 (by rw [zp1 (by decide), p_45]; exact w_addw a b), HJ.1⟩
  · exact ⟨za1 (by rw [zp1 (by decide), p_46]; exact w_subw a b HB.out), HJ.1⟩
  · exact ⟨za1 (by rw [zp1 (by decide), p_47]; rw [sllwV]), HJ.1⟩
  · exact ⟨za1 (by rw [zp1 (by decide), p_48]; rw [srlwV, HZ.out, ← HR3.out]), HJ.1⟩
  · exact ⟨za1 (by rw [zp1 (by decide), p_49]; rw [srawV, HZ.out, ← HR4.out]), HJ.1⟩
theorem res_f (op : Int) (hop : 50 ≤ op ∧ op ≤ 57) : zE8 op := by
  intro i pc a b w hi hpc ha hb
  have HJ : Jn w i w.heap.size (w.alloc (.cells (za0 i) 39)) := ⟨BW.new (Below.refl _ _) _, Blk.new _ _ _, Nat.le_refl _⟩
  have KS := fun i x (h : Jn w i w.heap.size x) => (zf0 op (by omega) (by omega) x).mono fun e w' (hh : _ ∧ _) => And.intro hh.1 (h.on hh.2)
  have KN := fun i x (h : Jn w i w.heap.size x) => (zf6 op (by omega) (by omega) x).mono fun e w' (hh : _ ∧ _) => And.intro hh.1 (h.on hh.2)
  have KZ := fun x => zD6 a ha x
  have hzr := zy9 a
  obtain ⟨z, hz⟩ : ∃ z, zxw a = z := ⟨_, rfl⟩
  rw [hz] at KZ hzr
  have HZ := Lib.hid hz
  have HZR := Lib.hid hzr
  have hzt : z / 2147483648 = 0 ∨ z / 2147483648 = 1 := by omega
  obtain ⟨R1, HR1⟩ : ∃ f : Int → Int, Hid (∀ x : Int, f x = rigV a 64 x.toNat 0) := ⟨fun x => rigV a 64 x.toNat 0, fun _ => rfl⟩
  obtain ⟨R2, HR2⟩ : ∃ f : Int → Int, Hid (∀ x : Int, f x = rigV a 64 x.toNat (a / 9223372036854775808)) := ⟨fun x => rigV a 64 x.toNat (a / 9223372036854775808), fun _ => rfl⟩
  obtain ⟨R3, HR3⟩ : ∃ f : Int → Int, Hid (∀ x : Int, f x = rigV z 32 x.toNat 0) := ⟨fun x => rigV z 32 x.toNat 0, fun _ => rfl⟩
  obtain ⟨R4, HR4⟩ : ∃ f : Int → Int, Hid (∀ x : Int, f x = rigV z 32 x.toNat (z / 2147483648)) := ⟨fun x => rigV z 32 x.toNat (z / 2147483648), fun _ => rfl⟩
  have KR1 := fun x h0 h1 w => rr64 a x 0 ha (.inl rfl) h0 h1 w
  have KR2 := fun x h0 h1 w => rr64 a x _ ha (zy8 a ha) h0 h1 w
  have KR3 := fun x h0 h1 w => rr32 z x 0 hzr (.inl rfl) h0 h1 w
  have KR4 := fun x h0 h1 w => rr32 z x _ hzr hzt h0 h1 w
  simp only [← HR1.out] at KR1
  simp only [← HR2.out] at KR2
  simp only [← HR3.out] at KR3
  simp only [← HR4.out] at KR4
  have HU3 : ∀ x : Int, 0 ≤ x → x < 32 → U64 (R3 x) := fun x h0 h1 => by rw [HR3.out]; exact zh3 hzr (.inl rfl) h0 h1
  have HU4 : ∀ x : Int, 0 ≤ x → x < 32 → U64 (R4 x) := fun x h0 h1 => by rw [HR4.out]; exact zh3 hzr hzt h0 h1
  clear hz hzr hzt
  unfold insV
  obtain ⟨op', rd, rs1, rs2, imm, aq, rl, pred, succ⟩ := i
  simp only at hi ⊢
  subst hi
  unfold za0 at HJ
  simp only at HJ
  obtain ⟨c0, c1, c2, c3, c4, c5, c6, c7, c8⟩ := HJ.cells
  simp only at c0 c1 c2 c3 c4 c5 c6 c7 c8
  have t1 := ze5 b 64 hb (by decide) (by decide)
  have t2 := ze5 b 32 hb (by decide) (by decide)
  have t3 := ze5 (IntKind.u64.wrap imm) 64 (w_U _) (by decide) (by decide)
  have t4 := ze5 (IntKind.u64.wrap imm) 32 (w_U _) (by decide) (by decide)
  have KB1 := fun w => KR1 (b % 64) (by omega) (by omega) w
  have KI1 := fun w => KR1 (IntKind.u64.wrap imm % 64) (by omega) (by omega) w
  have KB2 := fun w => KR2 (b % 64) (by omega) (by omega) w
  have KI2 := fun w => KR2 (IntKind.u64.wrap imm % 64) (by omega) (by omega) w
  have KB3 := fun w => KR3 (b % 32) (by omega) (by omega) w
  have KI3 := fun w => KR3 (IntKind.u64.wrap imm % 32) (by omega) (by omega) w
  have KB4 := fun w => KR4 (b % 32) (by omega) (by omega) w
  have KI4 := fun w => KR4 (IntKind.u64.wrap imm % 32) (by omega) (by omega) w
  clear KR1 KR2 KR3 KR4
  have HA := Lib.hid ha
  have HB := Lib.hid hb
  have HP := Lib.hid hpc
  clear ha hb hpc
  rcases zV9 hop with ⟨rfl, hs, hn, _⟩ | ⟨rfl, hs, hn, _⟩ | ⟨rfl, hs, hn, _⟩ | ⟨rfl, hs, hn, _⟩ | ⟨rfl, hs, hn, _⟩ | ⟨rfl, hs, hn, _⟩ | ⟨rfl, hs, hn, _⟩ | ⟨rfl, hs, hn, _⟩
  all_goals
    rw [hs] at KS
    rw [hn] at KN
    clear hs hn
    go_enter Tryz.func47, Tryz.ntmps47
    go_wp2_with (first
      | (go_at_call 23; refine (KS _ _ HJ).mono ?_; rintro e w1 ⟨rfl, HJ⟩; obtain ⟨c0, c1, c2, c3, c4, c5, c6, c7, c8⟩ := HJ.cells)
      | (go_at_call 42; refine (KZ _).mono ?_; rintro e w' ⟨rfl, rfl⟩)
      | (go_at_call 41; refine (KN _ _ HJ).mono ?_; rintro e w2 ⟨rfl, HJ⟩)
      | (go_at_call 73; refine (zm8 _ _ (by first | exact HA.out | exact HB.out | with_reducible exact w_U _) (by first | exact HA.out | exact HB.out | with_reducible exact w_U _) _).mono ?_; rintro e w' ⟨rfl, rfl⟩)
      | (go_at_call 76; refine (zm9 _ _).mono ?_; rintro e w' ⟨rfl, rfl⟩)
      | (go_at_call 77; refine (zn6 _ _ HA.out (by omega) (by omega) _).mono ?_; rintro e w' ⟨rfl, rfl⟩)
      | (go_at_call 78; ((with_reducible refine (KB1 _).mono ?_); rintro e w' ⟨rfl, rfl⟩))
      | (go_at_call 78; ((with_reducible refine (KI1 _).mono ?_); rintro e w' ⟨rfl, rfl⟩))
      | (go_at_call 78; ((with_reducible refine (KB2 _).mono ?_); rintro e w' ⟨rfl, rfl⟩))
      | (go_at_call 78; ((with_reducible refine (KI2 _).mono ?_); rintro e w' ⟨rfl, rfl⟩))
      | (go_at_call 78; ((with_reducible refine (KB3 _).mono ?_); rintro e w' ⟨rfl, rfl⟩))
      | (go_at_call 78; ((with_reducible refine (KI3 _).mono ?_); rintro e w' ⟨rfl, rfl⟩))
      | (go_at_call 78; ((with_reducible refine (KB4 _).mono ?_); rintro e w' ⟨rfl, rfl⟩))
      | (go_at_call 78; ((with_reducible refine (KI4 _).mono ?_); rintro e w' ⟨rfl, rfl⟩))
      | (go_at_call 72; refine (zH3 _ (by first | with_reducible exact zr0 _ _ | with_reducible exact w_U _ | exact HU3 _ (by omega) (by omega) | exact HU4 _ (by omega) (by omega)) _).mono ?_; rintro e w' ⟨rfl, rfl⟩))
    go_ret
  · exact ⟨za1 ((zb1 (by decide)).symm), HJ.1⟩
  · exact ⟨za1 ((zb1 (by decide)).symm), HJ.1⟩
  · exact ⟨za1 ((zb1 (by decide)).symm), HJ.1⟩
  · exact ⟨za1 ((zb1 (by decide)).symm), HJ.1⟩
  · exact ⟨za1 ((zb1 (by decide)).symm), HJ.1⟩
  · exact ⟨za1 ((zb1 (by decide)).symm), HJ.1⟩
  · exact ⟨za1 ((zb1 (by decide)).symm), HJ.1⟩
  · exact ⟨za1 ((zb1 (by decide)).symm), HJ.1⟩
theorem res_g (op : Int) (hop : 58 ≤ op ∧ op ≤ 66) : zE8 op := by
  intro i pc a b w hi hpc ha hb
  have HJ : Jn w i w.heap.size (w.alloc (.cells (za0 i) 39)) := ⟨BW.new (Below.refl _ _) _, Blk.new _ _ _, Nat.le_refl _⟩
  have KS := fun i x (h : Jn w i w.heap.size x) => (zf0 op (by omega) (by omega) x).mono fun e w' (hh : _ ∧ _) => And.intro hh.1 (h.on hh.2)
  have KN := fun i x (h : Jn w i w.heap.size x) => (zf6 op (by omega) (by omega) x).mono fun e w' (hh : _ ∧ _) => And.intro hh.1 (h.on hh.2)
  have KZ := fun x => zD6 a ha x
  have hzr := zy9 a
  obtain ⟨z, hz⟩ : ∃ z, zxw a = z := ⟨_, rfl⟩
  rw [hz] at KZ hzr
  have HZ := Lib.hid hz
  have HZR := Lib.hid hzr
  have hzt : z / 2147483648 = 0 ∨ z / 2147483648 = 1 := by omega
  obtain ⟨R1, HR1⟩ : ∃ f : Int → Int, Hid (∀ x : Int, f x = rigV a 64 x.toNat 0) := ⟨fun x => rigV a 64 x.toNat 0, fun _ => rfl⟩
  obtain ⟨R2, HR2⟩ : ∃ f : Int → Int, Hid (∀ x : Int, f x = rigV a 64 x.toNat (a / 9223372036854775808)) := ⟨fun x => rigV a 64 x.toNat (a / 9223372036854775808), fun _ => rfl⟩
  obtain ⟨R3, HR3⟩ : ∃ f : Int → Int, Hid (∀ x : Int, f x = rigV z 32 x.toNat 0) := ⟨fun x => rigV z 32 x.toNat 0, fun _ => rfl⟩
  obtain ⟨R4, HR4⟩ : ∃ f : Int → Int, Hid (∀ x : Int, f x = rigV z 32 x.toNat (z / 2147483648)) := ⟨fun x => rigV z 32 x.toNat (z / 2147483648), fun _ => rfl⟩
  have KR1 := fun x h0 h1 w => rr64 a x 0 ha (.inl rfl) h0 h1 w
  have KR2 := fun x h0 h1 w => rr64 a x _ ha (zy8 a ha) h0 h1 w
  have KR3 := fun x h0 h1 w => rr32 z x 0 hzr (.inl rfl) h0 h1 w
  have KR4 := fun x h0 h1 w => rr32 z x _ hzr hzt h0 h1 w
  simp only [← HR1.out] at KR1
  simp only [← HR2.out] at KR2
  simp only [← HR3.out] at KR3
  simp only [← HR4.out] at KR4
  have HU3 : ∀ x : Int, 0 ≤ x → x < 32 → U64 (R3 x) := fun x h0 h1 => by rw [HR3.out]; exact zh3 hzr (.inl rfl) h0 h1
  have HU4 : ∀ x : Int, 0 ≤ x → x < 32 → U64 (R4 x) := fun x h0 h1 => by rw [HR4.out]; exact zh3 hzr hzt h0 h1
  clear hz hzr hzt
  unfold insV
  obtain ⟨op', rd, rs1, rs2, imm, aq, rl, pred, succ⟩ := i
  simp only at hi ⊢
  subst hi
  unfold za0 at HJ
  simp only at HJ
  obtain ⟨c0, c1, c2, c3, c4, c5, c6, c7, c8⟩ := HJ.cells
  simp only at c0 c1 c2 c3 c4 c5 c6 c7 c8
  have t1 := ze5 b 64 hb (by decide) (by decide)
  have t2 := ze5 b 32 hb (by decide) (by decide)
  have t3 := ze5 (IntKind.u64.wrap imm) 64 (w_U _) (by decide) (by decide)
  have t4 := ze5 (IntKind.u64.wrap imm) 32 (w_U _) (by decide) (by decide)
  have KB1 := fun w => KR1 (b % 64) (by omega) (by omega) w
  have KI1 := fun w => KR1 (IntKind.u64.wrap imm % 64) (by omega) (by omega) w
  have KB2 := fun w => KR2 (b % 64) (by omega) (by omega) w
  have KI2 := fun w => KR2 (IntKind.u64.wrap imm % 64) (by omega) (by omega) w
  have KB3 := fun w => KR3 (b % 32) (by omega) (by omega) w
  have KI3 := fun w => KR3 (IntKind.u64.wrap imm % 32) (by omega) (by omega) w
  have KB4 := fun w => KR4 (b % 32) (by omega) (by omega) w
  have KI4 := fun w => KR4 (IntKind.u64.wrap imm % 32) (by omega) (by omega) w
  clear KR1 KR2 KR3 KR4
  have HA := Lib.hid ha
  have HB := Lib.hid hb
  have HP := Lib.hid hpc
  clear ha hb hpc
  rcases zM4 hop with ⟨rfl, hs, hn, _⟩ | ⟨rfl, hs, hn, _⟩ | ⟨rfl, hs, hn, _⟩ | ⟨rfl, hs, hn, _⟩ | ⟨rfl, hs, hn, _⟩ | ⟨rfl, hs, hn, _⟩ | ⟨rfl, hs, hn, _⟩ | ⟨rfl, hs, hn, _⟩ | ⟨rfl, hs, hn, _⟩
  all_goals
    rw [hs] at KS
    rw [hn] at KN
    clear hs hn
    go_enter Tryz.func47, Tryz.ntmps47
    go_wp2_with (first
      | (go_at_call 23; refine (KS _ _ HJ).mono ?_; rintro e w1 ⟨rfl, HJ⟩; obtain ⟨c0, c1, c2, c3, c4, c5, c6, c7, c8⟩ := HJ.cells)
      | (go_at_call 42; refine (KZ _).mono ?_; rintro e w' ⟨rfl, rfl⟩)
      | (go_at_call 41; refine (KN _ _ HJ).mono ?_; rintro e w2 ⟨rfl, HJ⟩)
      | (go_at_call 73; refine (zm8 _ _ (by first | exact HA.out | exact HB.out | with_reducible exact w_U _) (by first | exact HA.out | exact HB.out | with_reducible exact w_U _) _).mono ?_; rintro e w' ⟨rfl, rfl⟩)
      | (go_at_call 76; refine (zm9 _ _).mono ?_; rintro e w' ⟨rfl, rfl⟩)
      | (go_at_call 77; refine (zn6 _ _ HA.out (by omega) (by omega) _).mono ?_; rintro e w' ⟨rfl, rfl⟩)
      | (go_at_call 78; ((with_reducible refine (KB1 _).mono ?_); rintro e w' ⟨rfl, rfl⟩))
      | (go_at_call 78; ((with_reducible refine (KI1 _).mono ?_); rintro e w' ⟨rfl, rfl⟩))
      | (go_at_call 78; ((with_reducible refine (KB2 _).mono ?_); rintro e w' ⟨rfl, rfl⟩))
      | (go_at_call 78; ((with_reducible refine (KI2 _).mono ?_); rintro e w' ⟨rfl, rfl⟩))
      | (go_at_call 78; ((with_reducible refine (KB3 _).mono ?_); rintro e w' ⟨rfl, rfl⟩))
      | (go_at_call 78; ((with_reducible refine (KI3 _).mono ?_); rintro e w' ⟨rfl, rfl⟩))
      | (go_at_call 78; ((with_reducible refine (KB4 _).mono ?_); rintro e w' ⟨rfl, rfl⟩))
      | (go_at_call 78; ((with_reducible refine (KI4 _).mono ?_); rintro e w' ⟨rfl, rfl⟩))
      | (go_at_call 72; refine (zH3 _ (by first | with_reducible exact zr0 _ _ | with_reducible exact w_U _ | exact HU3 _ (by omega) (by omega) | exact HU4 _ (by omega) (by omega)) _).mono ?_; rintro e w' ⟨rfl, rfl⟩))
    go_ret
  · exact ⟨za1 ((zb1 (by decide)).symm), HJ.1⟩
  · exact ⟨za1 ((zb1 (by decide)).symm), HJ.1⟩
  · exact ⟨za1 ((zb1 (by decide)).symm), HJ.1⟩
  · exact ⟨za1 ((zb1 (by decide)).symm), HJ.1⟩
  · exact ⟨za1 ((zb1 (by decide)).symm), HJ.1⟩
  · exact ⟨za1 ((zb1 (by decide)).symm), HJ.1⟩
  · exact ⟨za1 ((zb1 (by decide)).symm), HJ.1⟩
  · exact ⟨za1 ((zb1 (by decide)).symm), HJ.1⟩
  · exact ⟨za1 ((zb1 (by decide)).symm), HJ.1⟩
theorem res_h (op : Int) (hop : 67 ≤ op ∧ op ≤ 75) : zE8 op := by
  intro i pc a b w hi hpc ha hb
  have HJ : Jn w i w.heap.size (w.alloc (.cells (za0 i) 39)) := ⟨BW.new (Below.refl _ _) _, Blk.new _ _ _, Nat.le_refl _⟩
  have KS := fun i x (h : Jn w i w.heap.size x) => (zf0 op (by omega) (by omega) x).mono fun e w' (hh : _ ∧ _) => And.intro hh.1 (h.on hh.2)
  have KN := fun i x (h : Jn w i w.heap.size x) => (zf6 op (by omega) (by omega) x).mono fun e w' (hh : _ ∧ _) => And.intro hh.1 (h.on hh.2)
  have KZ := fun x => zD6 a ha x
  have hzr := zy9 a
  obtain ⟨z, hz⟩ : ∃ z, zxw a = z := ⟨_, rfl⟩
  rw [hz] at KZ hzr
  have HZ := Lib.hid hz
  have HZR := Lib.hid hzr
  have hzt : z / 2147483648 = 0 ∨ z / 2147483648 = 1 := by omega
  obtain ⟨R1, HR1⟩ : ∃ f : Int → Int, Hid (∀ x : Int, f x = rigV a 64 x.toNat 0) := ⟨fun x => rigV a 64 x.toNat 0, fun _ => rfl⟩
  obtain ⟨R2, HR2⟩ : ∃ f : Int → Int, Hid (∀ x : Int, f x = rigV a 64 x.toNat (a / 9223372036854775808)) := ⟨fun x => rigV a 64 x.toNat (a / 9223372036854775808), fun _ => rfl⟩
  obtain ⟨R3, HR3⟩ : ∃ f : Int → Int, Hid (∀ x : Int, f x = rigV z 32 x.toNat 0) := ⟨fun x => rigV z 32 x.toNat 0, fun _ => rfl⟩
  obtain ⟨R4, HR4⟩ : ∃ f : Int → Int, Hid (∀ x : Int, f x = rigV z 32 x.toNat (z / 2147483648)) := ⟨fun x => rigV z 32 x.toNat (z / 2147483648), fun _ => rfl⟩
  have KR1 := fun x h0 h1 w => rr64 a x 0 ha (.inl rfl) h0 h1 w
  have KR2 := fun x h0 h1 w => rr64 a x _ ha (zy8 a ha) h0 h1 w
  have KR3 := fun x h0 h1 w => rr32 z x 0 hzr (.inl rfl) h0 h1 w
  have KR4 := fun x h0 h1 w => rr32 z x _ hzr hzt h0 h1 w
  simp only [← HR1.out] at KR1
  simp only [← HR2.out] at KR2
  simp only [← HR3.out] at KR3
  simp only [← HR4.out] at KR4
  have HU3 : ∀ x : Int, 0 ≤ x → x < 32 → U64 (R3 x) := fun x h0 h1 => by rw [HR3.out]; exact zh3 hzr (.inl rfl) h0 h1
  have HU4 : ∀ x : Int, 0 ≤ x → x < 32 → U64 (R4 x) := fun x h0 h1 => by rw [HR4.out]; exact zh3 hzr hzt h0 h1
  clear hz hzr hzt
  unfold insV
  obtain ⟨op', rd, rs1, rs2, imm, aq, rl, pred, succ⟩ := i
  simp only at hi ⊢
  subst hi
  unfold za0 at HJ
  simp only at HJ
  obtain ⟨c0, c1, c2, c3, c4, c5, c6, c7, c8⟩ := HJ.cells
  simp only at c0 c1 c2 c3 c4 c5 c6 c7 c8
  have t1 := ze5 b 64 hb (by decide) (by decide)
  have t2 := ze5 b 32 hb (by decide) (by decide)
  have t3 := ze5 (IntKind.u64.wrap imm) 64 (w_U _) (by decide) (by decide)
  have t4 := ze5 (IntKind.u64.wrap imm) 32 (w_U _) (by decide) (by decide)
  have KB1 := fun w => KR1 (b % 64) (by omega) (by omega) w
  have KI1 := fun w => KR1 (IntKind.u64.wrap imm % 64) (by omega) (by omega) w
  have KB2 := fun w => KR2 (b % 64) (by omega) (by omega) w
  have KI2 := fun w => KR2 (IntKind.u64.wrap imm % 64) (by omega) (by omega) w
  have KB3 := fun w => KR3 (b % 32) (by omega) (by omega) w
  have KI3 := fun w => KR3 (IntKind.u64.wrap imm % 32) (by omega) (by omega) w
  have KB4 := fun w => KR4 (b % 32) (by omega) (by omega) w
  have KI4 := fun w => KR4 (IntKind.u64.wrap imm % 32) (by omega) (by omega) w
  clear KR1 KR2 KR3 KR4
  have HA := Lib.hid ha
  have HB := Lib.hid hb
  have HP := Lib.hid hpc
  clear ha hb hpc
  rcases zN5 hop with ⟨rfl, hs, hn, _⟩ | ⟨rfl, hs, hn, _⟩ | ⟨rfl, hs, hn, _⟩ | ⟨rfl, hs, hn, _⟩ | ⟨rfl, hs, hn, _⟩ | ⟨rfl, hs, hn, _⟩ | ⟨rfl, hs, hn, _⟩ | ⟨rfl, hs, hn, _⟩ | ⟨rfl, hs, hn, _⟩
  all_goals
    rw [hs] at KS
    rw [hn] at KN
    clear hs hn
    go_enter Tryz.func47, Tryz.ntmps47
    go_wp2_with (first
      | (go_at_call 23; refine (KS _ _ HJ).mono ?_; rintro e w1 ⟨rfl, HJ⟩; obtain ⟨c0, c1, c2, c3, c4, c5, c6, c7, c8⟩ := HJ.cells)
      | (go_at_call 42; refine (KZ _).mono ?_; rintro e w' ⟨rfl, rfl⟩)
      | (go_at_call 41; refine (KN _ _ HJ).mono ?_; rintro e w2 ⟨rfl, HJ⟩)
      | (go_at_call 73; refine (zm8 _ _ (by first | exact HA.out | exact HB.out | with_reducible exact w_U _) (by first | exact HA.out | exact HB.out | with_reducible exact w_U _) _).mono ?_; rintro e w' ⟨rfl, rfl⟩)
      | (go_at_call 76; refine (zm9 _ _).mono ?_; rintro e w' ⟨rfl, rfl⟩)
      | (go_at_call 77; refine (zn6 _ _ HA.out (by omega) (by omega) _).mono ?_; rintro e w' ⟨rfl, rfl⟩)
      | (go_at_call 78; ((with_reducible refine (KB1 _).mono ?_); rintro e w' ⟨rfl, rfl⟩))
      | (go_at_call 78; ((with_reducible refine (KI1 _).mono ?_); rintro e w' ⟨rfl, rfl⟩))
      | (go_at_call 78; ((with_reducible refine (KB2 _).mono ?_); rintro e w' ⟨rfl, rfl⟩))
      | (go_at_call 78; ((with_reducible refine (KI2 _).mono ?_); rintro e w' ⟨rfl, rfl⟩))
      | (go_at_call 78; ((with_reducible refine (KB3 _).mono ?_); rintro e w' ⟨rfl, rfl⟩))
      | (go_at_call 78; ((with_reducible refine (KI3 _).mono ?_); rintro e w' ⟨rfl, rfl⟩))
      | (go_at_call 78; ((with_reducible refine (KB4 _).mono ?_); rintro e w' ⟨rfl, rfl⟩))
      | (go_at_call 78; ((with_reducible refine (KI4 _).mono ?_); rintro e w' ⟨rfl, rfl⟩))
      | (go_at_call 72; refine (zH3 _ (by first | with_reducible exact zr0 _ _ | with_reducible exact w_U _ | exact HU3 _ (by omega) (by omega) | exact HU4 _ (by omega) (by omega)) _).mono ?_; rintro e w' ⟨rfl, rfl⟩))
    go_ret
  · exact ⟨za1 ((zb1 (by decide)).symm), HJ.1⟩
  · exact ⟨za1 ((zb1 (by decide)).symm), HJ.1⟩
  · exact ⟨za1 ((zb1 (by decide)).symm), HJ.1⟩
  · exact ⟨za1 ((zb1 (by decide)).symm), HJ.1⟩
  · exact ⟨za1 ((zb1 (by decide)).symm), HJ.1⟩
  · exact ⟨za1 ((zb1 (by decide)).symm), HJ.1⟩
  · exact ⟨za1 ((zb1 (by decide)).symm), HJ.1⟩
  · exact ⟨za1 ((zb1 (by decide)).symm), HJ.1⟩
  · exact ⟨za1 ((zb1 (by decide)).symm), HJ.1⟩
end Go.Proofs.YtmamblgpekafbaaGreatDoor
namespace Go.Proofs.YtmamblgpekafbaaGreatDoor
open Go.RowKit
theorem res_no (op : Int) (ho : I64 op) (h : ¬ (1 ≤ op ∧ op ≤ 75)) : zE8 op := by
  intro i pc a b w hi hpc ha hb
  have HJ : Jn w i w.heap.size (w.alloc (.cells (za0 i) 39)) := ⟨BW.new (Below.refl _ _) _, Blk.new _ _ _, Nat.le_refl _⟩
  have KS := fun i x (h : Jn w i w.heap.size x) => (zf0 op ho.1 ho.2 x).mono fun e w' (hh : _ ∧ _) => And.intro hh.1 (h.on hh.2)
  have KN := fun i x (h : Jn w i w.heap.size x) => (zf6 op ho.1 ho.2 x).mono fun e w' (hh : _ ∧ _) => And.intro hh.1 (h.on hh.2)
  have KZ := fun x => zD6 a ha x
  have hn : tx (nmO op) = .string ⟨#[]⟩ := by unfold nmO; rw [if_neg h]; rfl
  have hs : srt op = 0 := by have := zd0 op; omega
  have HV := Lib.hid (zb1 (op := op) (imm := i.imm) (pc := pc) (a := a) (b := b) (by omega))
  rw [hs] at KS
  rw [hn] at KN
  generalize zxw a = z at *
  clear hs hn h ho ha hb hpc
  unfold insV
  obtain ⟨op', rd, rs1, rs2, imm, aq, rl, pred, succ⟩ := i
  simp only at hi HV ⊢
  subst hi
  unfold za0 at HJ
  simp only at HJ
  obtain ⟨c0, c1, c2, c3, c4, c5, c6, c7, c8⟩ := HJ.cells
  simp only at c0 c1 c2 c3 c4 c5 c6 c7 c8
  go_enter Tryz.func47, Tryz.ntmps47
  go_wp2_with (first
    | (go_at_call 23; refine (KS _ _ HJ).mono ?_; rintro e w1 ⟨rfl, HJ⟩; obtain ⟨c0, c1, c2, c3, c4, c5, c6, c7, c8⟩ := HJ.cells)
    | (go_at_call 42; refine (KZ _).mono ?_; rintro e w' ⟨rfl, rfl⟩)
    | (go_at_call 41; refine (KN _ _ HJ).mono ?_; rintro e w2 ⟨rfl, HJ⟩))
  go_ret
  exact ⟨za1 HV.out.symm, HJ.1⟩
theorem rres_any (i : Ins) (pc a b : Int) (ho : I64 i.op) (hpc : U64 pc) (ha : U64 a) (hb : U64 b) (w : World) :
    Calls Tryz.prog 47 #[insV i, .int .u64 pc, .int .u64 a, .int .u64 b] w fun e w' => e = .returned (.int .u64 (resV i.op i.imm pc a b)) ∧ Below w.heap.size w w' := by
  by_cases h : 1 ≤ i.op ∧ i.op ≤ 75
  · by_cases ha' : i.op ≤ 10
    · exact res_a i.op (by omega) i pc a b w rfl hpc ha hb
    by_cases hb' : i.op ≤ 21
    · exact res_b i.op (by omega) i pc a b w rfl hpc ha hb
    by_cases hc' : i.op ≤ 30
    · exact res_c i.op (by omega) i pc a b w rfl hpc ha hb
    by_cases hd' : i.op ≤ 40
    · exact res_d i.op (by omega) i pc a b w rfl hpc ha hb
    by_cases he' : i.op ≤ 49
    · exact res_e i.op (by omega) i pc a b w rfl hpc ha hb
    by_cases hf' : i.op ≤ 57
    · exact res_f i.op (by omega) i pc a b w rfl hpc ha hb
    by_cases hg' : i.op ≤ 66
    · exact res_g i.op (by omega) i pc a b w rfl hpc ha hb
    · exact res_h i.op (by omega) i pc a b w rfl hpc ha hb
  · exact res_no i.op ho h i pc a b w rfl hpc ha hb
end Go.Proofs.YtmamblgpekafbaaGreatDoor
namespace Go.Proofs.YtmamblgpekafbaaGreatDoor
open Go.RowKit
instance (x : Int) : Decidable (U64 x) := by unfold U64; infer_instance
end Go.Proofs.YtmamblgpekafbaaGreatDoor
namespace Go.Proofs.YtmamblgpekafbaaGreatDoor
open Go.RowKit
structure Tab8 (w : World) : Prop where
  lasts : TabL w
  pairs : TabI 1 Zc1 w
theorem Tab8.below {W w : World} (h : Tab8 W) (hb : Below W.heap.size W w) : Tab8 w := ⟨h.lasts.below hb, h.pairs.below hb⟩
theorem num_at {op : Int} (h : 22 ≤ op ∧ op ≤ 34) : 35 ≤ zP4 op ∧ zP4 op ≤ 49 := by
  have hc : op = 22 ∨ op = 23 ∨ op = 24 ∨ op = 25 ∨ op = 26 ∨ op = 27 ∨ op = 28 ∨ op = 29 ∨ op = 30 ∨ op = 31 ∨ op = 32 ∨ op = 33 ∨ op = 34 := by omega
  rcases hc with rfl | rfl | rfl | rfl | rfl | rfl | rfl | rfl | rfl | rfl | rfl | rfl | rfl <;> decide
theorem res_way (op : Int) : (op = 1 ∧ srt op = 1) ∨ (op = 2 ∧ srt op = 1) ∨ ((op = 3 ∨ op = 4) ∧ srt op = 2) ∨ ((22 ≤ op ∧ op ≤ 34) ∧ srt op = 6) ∨ ((35 ≤ op ∧ op ≤ 49) ∧ srt op = 7) ∨ ((¬ ((1 ≤ op ∧ op ≤ 4) ∨ (22 ≤ op ∧ op ≤ 49))) ∧ srt op ≠ 1 ∧ srt op ≠ 2 ∧ srt op ≠ 6 ∧ srt op ≠ 7) := by
  have hs := zd0 op
  generalize srt op = k at *
  by_cases h1 : op = 1
  · exact .inl ⟨h1, by omega⟩
  by_cases h2 : op = 2
  · exact .inr (.inl ⟨h2, by omega⟩)
  by_cases h3 : op = 3 ∨ op = 4
  · exact .inr (.inr (.inl ⟨h3, by omega⟩))
  by_cases h6 : 22 ≤ op ∧ op ≤ 34
  · exact .inr (.inr (.inr (.inl ⟨h6, by omega⟩)))
  by_cases h7 : 35 ≤ op ∧ op ≤ 49
  · exact .inr (.inr (.inr (.inr (.inl ⟨h7, by omega⟩))))
  · exact .inr (.inr (.inr (.inr (.inr ⟨by omega, by omega, by omega, by omega, by omega⟩))))
section
variable (i : Ins) (pc a b : Int) (ho : I64 i.op) (ha : U64 a) (hb : U64 b) (w : World) (T : Tab8 w)
include ho ha hb T
theorem result_c : Calls Tryz.prog 62 #[insV i, .int .u64 pc, .int .u64 a, .int .u64 b] w fun e w' => e = .returned (.int .u64 (resV i.op i.imm pc a b)) ∧ Below w.heap.size w w' := by
  have HJ : Jn w i w.heap.size (w.alloc (.cells (za0 i) 39)) := ⟨BW.new (Below.refl _ _) _, Blk.new _ _ _, Nat.le_refl _⟩
  have T1 := T.below HJ.1
  have KS := fun x (h : TabL x) => zh2 i.op ho x h
  have KP := fun p (hp : 35 ≤ p ∧ p ≤ 49) x => zS0 p a b hp ha hb x
  have KN := fun p (hp : 35 ≤ p ∧ p ≤ 49) x => zS0 p a (IntKind.u64.wrap i.imm) hp ha (w_U _) x
  have hr1 : i.op = 1 → resV i.op i.imm pc a b = IntKind.u64.wrap i.imm := fun h => by unfold resV; rw [if_pos h]
  have hr2 : i.op = 2 → resV i.op i.imm pc a b = IntKind.u64.wrap (pc + IntKind.u64.wrap i.imm) := fun h => by unfold resV; rw [if_neg (by omega), if_pos h, IntKind.wrap_u64 (pc + _)]; rfl
  have hr3 : i.op = 3 ∨ i.op = 4 → resV i.op i.imm pc a b = IntKind.u64.wrap (pc + 4) := fun h => by unfold resV; rw [if_neg (by omega), if_neg (by omega), if_pos h, IntKind.wrap_u64]; rfl
  have hr6 : 22 ≤ i.op ∧ i.op ≤ 34 → resV i.op i.imm pc a b = zd4 (zP4 i.op) a (IntKind.u64.wrap i.imm) := fun h => zs3 _ h rfl
  have hr7 : 35 ≤ i.op ∧ i.op ≤ 49 → resV i.op i.imm pc a b = zd4 i.op a b := fun h => zp1 h
  have hr0 : ¬ ((1 ≤ i.op ∧ i.op ≤ 4) ∨ (22 ≤ i.op ∧ i.op ≤ 49)) → resV i.op i.imm pc a b = 0 := fun h => zb1 h
  have hc : (i.op = 1 ∧ srt i.op = 1) ∨ (i.op = 2 ∧ srt i.op = 1) ∨ ((i.op = 3 ∨ i.op = 4) ∧ srt i.op = 2) ∨ ((22 ≤ i.op ∧ i.op ≤ 34) ∧ srt i.op = 6) ∨ ((35 ≤ i.op ∧ i.op ≤ 49) ∧ srt i.op = 7) ∨ ((¬ ((1 ≤ i.op ∧ i.op ≤ 4) ∨ (22 ≤ i.op ∧ i.op ≤ 49))) ∧ srt i.op ≠ 1 ∧ srt i.op ≠ 2 ∧ srt i.op ≠ 6 ∧ srt i.op ≠ 7) := res_way i.op
  have HTL := T1.lasts
  have HTP := T1.pairs
  clear ho ha hb T T1
  obtain ⟨op, rd, rs1, rs2, imm, aq, rl, pred, succ⟩ := i
  unfold insV
  unfold za0 at HJ HTL HTP
  simp only at KS KP KN hr1 hr2 hr3 hr6 hr7 hr0 hc HJ HTL HTP ⊢
  obtain ⟨c0, c1, c2, c3, c4, c5, c6, c7, c8⟩ := HJ.cells
  simp only at c0 c1 c2 c3 c4 c5 c6 c7 c8
  clear c1 c2 c3 c5 c6 c7 c8
  have HB := Lib.hid HJ.1
  clear HJ
  rcases hc with ⟨h, hk⟩ | ⟨h, hk⟩ | ⟨h, hk⟩ | ⟨h, hk⟩ | ⟨h, hk⟩ | ⟨h, hk⟩
  · have HV := Lib.hid (hr1 h)
    rw [hk] at KS
    subst h
    clear hr1 hr2 hr3 hr6 hr7 hr0 hk KP KN HTP
    go_enter Tryz.func62, Tryz.ntmps62
    go_wp2_with (first | (go_at_call 15; refine (KS _ HTL).mono ?_; rintro e w2 ⟨rfl, rfl⟩))
    go_ret
    exact ⟨za1 HV.out.symm, HB.out⟩
  · have HV := Lib.hid (hr2 h)
    rw [hk] at KS
    subst h
    clear hr1 hr2 hr3 hr6 hr7 hr0 hk KP KN HTP
    go_enter Tryz.func62, Tryz.ntmps62
    go_wp2_with (first | (go_at_call 15; refine (KS _ HTL).mono ?_; rintro e w2 ⟨rfl, rfl⟩))
    go_ret
    exact ⟨za1 HV.out.symm, HB.out⟩
  · have HV := Lib.hid (hr3 h)
    rw [hk] at KS
    clear hr1 hr2 hr3 hr6 hr7 hr0 hk KP KN HTP h
    go_enter Tryz.func62, Tryz.ntmps62
    go_wp2_with (first | (go_at_call 15; refine (KS _ HTL).mono ?_; rintro e w2 ⟨rfl, rfl⟩))
    go_ret
    exact ⟨za1 HV.out.symm, HB.out⟩
  · have HV := Lib.hid (hr6 h)
    rw [hk] at KS
    have HN := num_at h
    have KN := fun x => KN _ HN x
    have cp := HTP (op - 22).toNat (by simp [Zc1]; omega)
    rw [show Zc1.getD (op - 22).toNat 0 = zP4 op from rfl] at cp
    obtain ⟨o1, o2⟩ := h
    generalize zP4 op = p at *
    clear hr1 hr2 hr3 hr6 hr7 hr0 hk KP HN
    go_enter Tryz.func62, Tryz.ntmps62
    go_wp2_with (first | (go_at_call 15; refine (KS _ HTL).mono ?_; rintro e w2 ⟨rfl, rfl⟩) | (go_at_call 108; refine (KN _).mono ?_; rintro e w2 ⟨rfl, rfl⟩))
    go_ret
    exact ⟨za1 HV.out.symm, HB.out⟩
  · have HV := Lib.hid (hr7 h)
    rw [hk] at KS
    have KP := fun x => KP _ h x
    clear hr1 hr2 hr3 hr6 hr7 hr0 hk KN HTP h
    go_enter Tryz.func62, Tryz.ntmps62
    go_wp2_with (first | (go_at_call 15; refine (KS _ HTL).mono ?_; rintro e w2 ⟨rfl, rfl⟩) | (go_at_call 108; refine (KP _).mono ?_; rintro e w2 ⟨rfl, rfl⟩))
    go_ret
    exact ⟨za1 HV.out.symm, HB.out⟩
  · have HV := Lib.hid (hr0 h)
    generalize srt op = k at *
    obtain ⟨k1, k2, k6, k7⟩ := hk
    have b1 : (k == 1) = false := by simpa using k1
    have b2 : (k == 2) = false := by simpa using k2
    have b6 : (k == 6) = false := by simpa using k6
    have b7 : (k == 7) = false := by simpa using k7
    clear hr1 hr2 hr3 hr6 hr7 hr0 KN KP HTP h k1 k2 k6 k7
    go_enter Tryz.func62, Tryz.ntmps62
    go_wp2_with (first | (go_at_call 15; refine (KS _ HTL).mono ?_; rintro e w2 ⟨rfl, rfl⟩))
    go_ret
    exact ⟨za1 HV.out.symm, HB.out⟩
end
section
variable (i : Ins) (a b : Int) (ho : I64 i.op) (ha : U64 a) (hb : U64 b) (w : World)
include ha hb
theorem taken_c : Calls Tryz.prog 63 #[insV i, .int .u64 a, .int .u64 b] w fun e w' => e = .returned (.bool (takV i.op a b)) ∧ Below w.heap.size w w' := by
  have HJ : Jn w i w.heap.size (w.alloc (.cells (za0 i) 39)) := ⟨BW.new (Below.refl _ _) _, Blk.new _ _ _, Nat.le_refl _⟩
  have KL := fun x => zS2 a b ha hb x
  have hv : takV i.op a b = if i.op = 5 then a == b else if i.op = 6 then a != b else if i.op = 7 then lowB a b else if i.op = 8 then !lowB a b else if i.op = 9 then decide (a < b) else if i.op = 10 then !decide (a < b) else false := rfl
  have hc : i.op = 5 ∨ i.op = 6 ∨ i.op = 7 ∨ i.op = 8 ∨ i.op = 9 ∨ i.op = 10 ∨ (i.op ≠ 5 ∧ i.op ≠ 6 ∧ i.op ≠ 7 ∧ i.op ≠ 8 ∧ i.op ≠ 9 ∧ i.op ≠ 10) := by omega
  clear ha hb
  obtain ⟨op, rd, rs1, rs2, imm, aq, rl, pred, succ⟩ := i
  unfold insV
  unfold za0 at HJ
  simp only at hv hc HJ ⊢
  obtain ⟨c0, c1, c2, c3, c4, c5, c6, c7, c8⟩ := HJ.cells
  simp only at c0 c1 c2 c3 c4 c5 c6 c7 c8
  clear c1 c2 c3 c4 c5 c6 c7 c8
  have HB := Lib.hid HJ.1
  clear HJ
  rcases hc with rfl | rfl | rfl | rfl | rfl | rfl | ⟨h5, h6, h7, h8, h9, h10⟩
  case' inr.inr.inr.inr.inr.inr =>
    have b5 : (op == 5) = false := by simpa using h5
    have b6 : (op == 6) = false := by simpa using h6
    have b7 : (op == 7) = false := by simpa using h7
    have b8 : (op == 8) = false := by simpa using h8
    have b9 : (op == 9) = false := by simpa using h9
    have b10 : (op == 10) = false := by simpa using h10
    rw [if_neg h5, if_neg h6, if_neg h7, if_neg h8, if_neg h9, if_neg h10] at hv
    clear h5 h6 h7 h8 h9 h10
  all_goals
    have HV := Lib.hid hv
    clear hv
    generalize lowB a b = c at *
    go_enter Tryz.func63, Tryz.ntmps63
    go_wp2_with (first | (go_at_call 107; refine (KL _).mono ?_; rintro e w2 ⟨rfl, rfl⟩))
    go_ret
    exact ⟨zb0 (by rw [HV.out]; first | done | (simp; done) | (simp; rw [Bool.eq_iff_iff]; simp)), HB.out⟩
end
section
variable (i : Ins) (pc a b : Int) (ha : U64 a) (hb : U64 b) (w : World)
include ha hb
theorem next_c : Calls Tryz.prog 38 #[insV i, .int .u64 pc, .int .u64 a, .int .u64 b] w fun e w' => e = .returned (.int .u64 (nxtV i.op i.imm pc a b)) ∧ Below w.heap.size w w' := by
  have HJ : Jn w i w.heap.size (w.alloc (.cells (za0 i) 39)) := ⟨BW.new (Below.refl _ _) _, Blk.new _ _ _, Nat.le_refl _⟩
  have KT := fun x => taken_c i a b ha hb x
  have hv : nxtV i.op i.imm pc a b = if i.op = 3 ∨ takV i.op a b = true then IntKind.u64.wrap (pc + IntKind.u64.wrap i.imm) else if i.op = 4 then IntKind.u64.wrap (a + IntKind.u64.wrap i.imm) - IntKind.u64.wrap (a + IntKind.u64.wrap i.imm) % 2 else IntKind.u64.wrap (pc + 4) := by
    rw [IntKind.wrap_u64 (pc + _), IntKind.wrap_u64 (pc + 4), IntKind.wrap_u64 (a + _)]; rfl
  have ht4 : i.op = 4 → takV i.op a b = false := fun h => by rw [h]; rfl
  have he := Zl3 (w_U (a + IntKind.u64.wrap i.imm))
  have hc : i.op = 3 ∨ i.op = 4 ∨ (i.op ≠ 3 ∧ i.op ≠ 4) := by omega
  clear ha hb
  obtain ⟨op, rd, rs1, rs2, imm, aq, rl, pred, succ⟩ := i
  unfold insV at KT ⊢
  unfold za0 at HJ
  simp only at KT hv ht4 he hc HJ ⊢
  have HE := Lib.hid he
  clear he
  obtain ⟨c0, c1, c2, c3, c4, c5, c6, c7, c8⟩ := HJ.cells
  simp only at c0 c1 c2 c3 c4 c5 c6 c7 c8
  have HBK := HJ.2.1
  have HB := Lib.hid HJ.1
  clear HJ
  rcases hc with rfl | rfl | ⟨h3, h4⟩
  · rw [if_pos (.inl rfl)] at hv
    have HV := Lib.hid hv
    clear hv ht4 KT
    go_enter Tryz.func38, Tryz.ntmps38
    go_wp2
    go_ret
    exact ⟨za1 HV.out.symm, HB.out⟩
  · rw [ht4 rfl, if_neg (by decide), if_pos rfl] at hv
    have HV := Lib.hid hv
    clear hv ht4 KT
    go_enter Tryz.func38, Tryz.ntmps38
    go_wp2
    go_ret
    exact ⟨za1 (by rw [HV.out, ← HE.out]), HB.out⟩
  · have b3 : (op == 3) = false := by simpa using h3
    have b4 : (op == 4) = false := by simpa using h4
    rw [if_neg h4] at hv
    have hv' : nxtV op imm pc a b = if takV op a b = true then IntKind.u64.wrap (pc + IntKind.u64.wrap imm) else IntKind.u64.wrap (pc + 4) := by rw [hv]; simp [h3]
    have HV := Lib.hid hv'
    clear hv hv' ht4 h3 h4
    generalize takV op a b = t at *
    cases t
    all_goals
      have HV := Lib.hid HV.out
      go_enter Tryz.func38, Tryz.ntmps38
      go_wp2_with (first
        | (with_reducible refine za8 (o := ⟨some 25, _, _, _, _, _⟩) rfl 39 (.tmp 4) rfl HBK rfl Tryz.underlying39 rfl (by kernel_rfl) ?_)
        | (go_at_call 63; refine (KT _).mono ?_; rintro e w2 ⟨rfl, hb2⟩; have HB2 := Lib.hid (BW.on HB.out hb2)))
      go_ret
      exact ⟨za1 (by rw [HV.out]; rfl), HB2.out⟩
end
end Go.Proofs.YtmamblgpekafbaaGreatDoor
