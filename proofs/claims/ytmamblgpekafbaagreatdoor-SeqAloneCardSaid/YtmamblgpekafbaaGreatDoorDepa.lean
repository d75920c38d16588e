/- Of stage 11. -/
import Derived.Test.YtmamblgpekafbaaGreatDoorCypa
import Derived.Test.YtmamblgpekafbaaGreatDoorCyzpa
set_option maxRecDepth 100000
set_option maxHeartbeats 2000000
namespace Go.Proofs.YtmamblgpekafbaaGreatDoor
open Go.RowKit
theorem zo3 (z : Ins) : insV z = .agg (za0 z) := rfl
theorem zL6 {P : Program} {W W0 w : World} {z : Ins} (i : Ins) (hr : Blk (za0 z) 39 W.heap.size W0) (hb : Below W.heap.size W W0) (h : BW W0 w) :
    ∃ w', (storeCells ⟨W.heap.size, 0, none⟩ (za0 i).toList 0).run P w = .ok () w' ∧ Blk (za0 i) 39 W.heap.size w' ∧ BW W w' := by
  obtain ⟨w', h1, h2, h3⟩ := (hr.within h hr.lt).store (P := P) (za0 i).toList rfl (zn2 i)
  refine ⟨w', h1, h2, ?_⟩
  have hbw : Below W.heap.size W w := hb.trans (Below.mono h hb.size)
  exact Below.stored hbw h3 (Nat.le_refl _) hbw.size
theorem oc47 : ∀ k : Fin 75, (ocV ((k.val : Int) + 1) = 47 ↔ 10 ≤ srt ((k.val : Int) + 1)) ∧ (ocV ((k.val : Int) + 1) = 15 ↔ ((k.val : Int) + 1 = 50 ∨ (k.val : Int) + 1 = 51)) := by decide
theorem oc47' {op : Int} (h : 1 ≤ op ∧ op ≤ 75) : (ocV op = 47 ↔ 10 ≤ srt op) ∧ (ocV op = 15 ↔ (op = 50 ∨ op = 51)) := by
  have := oc47 ⟨op.toNat - 1, by omega⟩
  simp only [show ((op.toNat - 1 : Nat) : Int) + 1 = op by omega] at this
  exact this
def rawI (v op : Int) (aq rl : Bool) (pred succ : Int) : Ins := ⟨op, v / 128 % 32, v / 32768 % 32, v / 1048576 % 32, immV v op, aq, rl, pred, succ⟩
theorem zN8 {v op : Int} {aq rl : Bool} {p s : Int} (h : 1 ≤ op ∧ op ≤ 75) : I64 (rawI v op aq rl p s).op := ⟨by show _ ≤ op; omega, by show op ≤ _; omega⟩
theorem Zr3 {v op : Int} (h : 1 ≤ op ∧ op ≤ 75) (hi : Isw v op) :
    (ocV op = 47 → zd8 v op = clnI (rawI v op (decide (v / 67108864 % 2 = 1)) (decide (v / 33554432 % 2 = 1)) 0 0)) ∧
    (ocV op = 15 → zd8 v op = clnI (rawI v op false false (v / 16777216 % 16) (v / 1048576 % 16))) ∧
    (ocV op ≠ 47 → ocV op ≠ 15 → zd8 v op = clnI (rawI v op false false 0 0)) := by
  obtain ⟨h1, h2⟩ := oc47' h
  refine ⟨fun e => ?_, fun e => ?_, fun e e' => ?_⟩
  · have hs := h1.1 e
    have hn : op ≠ 50 ∧ op ≠ 51 := by
      refine ⟨fun g => ?_, fun g => ?_⟩
      · subst g; exact absurd e (by decide)
      · subst g; exact absurd e (by decide)
    unfold zd8 clnI rawI immV
    simp [hs, hn.1, hn.2]
  · have hs : ¬ 10 ≤ srt op := fun g => by have := h1.2 g; omega
    rcases h2.1 e with rfl | rfl
    · unfold zd8 clnI rawI immV
      simp [hs]
    · have h7 := hi.nrm.n8 (by decide)
      have a1 : v / 16777216 % 16 = 3 := by omega
      have a2 : v / 1048576 % 16 = 3 := by omega
      unfold zd8 clnI rawI immV
      simp [hs, a1, a2]
  · have hs : ¬ 10 ≤ srt op := fun g => e (h1.2 g)
    have hn : op ≠ 50 ∧ op ≠ 51 := ⟨fun g => e' (h2.2 (.inl g)), fun g => e' (h2.2 (.inr g))⟩
    unfold zd8 clnI rawI immV
    simp [hs, hn.1, hn.2]
theorem Zj5 (v : Int) (hv : U32 v) (h0 : opW v = 0) (w : World) (T : Tab6 w) :
    Calls Tryz.prog 55 #[.int .u32 v] w fun e w' => e = .returned (.tuple #[insV (decI v), .int .i64 (decE v)]) ∧ Below w.heap.size w w' := by
  have KO := fun x (h : BW w x) => zm3 v hv x (T.below h)
  have HD1 : Hid (decI v = za5) := by show _ = _; unfold decI; rw [if_pos h0]
  have HD2 : Hid (decE v = 2) := by show _ = _; unfold decE decB; rw [h0]; rfl
  rw [h0] at KO
  clear h0 T
  go_enter Tryz.func55, Tryz.ntmps55
  go_upto_region 1 with (fail)
  have HR : Hid (Blk (za0 za5) 39 w.heap.size (w.alloc (.cells (za0 za5) 39))) := Blk.new _ _ w
  have HB0 : Hid (Below w.heap.size w (w.alloc (.cells (za0 za5) 39))) := (Below.refl _ _).alloc (Nat.le_refl _) _
  unfold za5 za0 at HR HB0
  simp only at HR HB0
  generalize w.alloc (.cells _ 39) = w0 at *
  have HRN : Hid (Blk (za0 za5) 39 w.heap.size w0) := HR.out
  clear HR
  go_upto_region 3 with (first
    | (go_at_call 101; refine (KO _ HB0.out).mono ?_; rintro e w4 ⟨rfl, hb⟩; have HZ := Lib.hid (HRN.out.on hb); have HB2 := Lib.hid (BW.on HB0.out hb); clear hb))
  have c0 := HZ.out.cell 0
  have c1 := HZ.out.cell 1
  have c2 := HZ.out.cell 2
  have c3 := HZ.out.cell 3
  have c4 := HZ.out.cell 4
  have c5 := HZ.out.cell 5
  have c6 := HZ.out.cell 6
  have c7 := HZ.out.cell 7
  have c8 := HZ.out.cell 8
  simp only [za5, za0] at c0 c1 c2 c3 c4 c5 c6 c7 c8
  have f0 := HZ.out.free 0
  have f1 := HZ.out.free 1
  have f2 := HZ.out.free 2
  have f3 := HZ.out.free 3
  have f4 := HZ.out.free 4
  have f5 := HZ.out.free 5
  have f6 := HZ.out.free 6
  have f7 := HZ.out.free 7
  have f8 := HZ.out.free 8
  go_wp2
  rw [HD1.out, HD2.out]
  have HW := (((((((((HZ.out.set 0 (.int .i64 0)).set 1 (.int .i64 0)).set 2 (.int .i64 0)).set 3 (.int .i64 0)).set 4 (.int .i64 0)).set 5 (.bool false)).set 6 (.bool false)).set 7 (.int .i64 0)).set 8 (.int .i64 0))
  have HW' : Blk (za0 za5) 39 w.heap.size _ := HW
  refine bodyPost_ret (zc2 rfl rfl HW' Tryz.underlying39 rfl (by kernel_rfl)) rfl ⟨rfl, ?_⟩
  exact ((((((((HB2.out.setCell (Nat.le_refl _) _).setCell (Nat.le_refl _) _).setCell (Nat.le_refl _) _).setCell (Nat.le_refl _) _).setCell (Nat.le_refl _) _).setCell (Nat.le_refl _) _).setCell (Nat.le_refl _) _).setCell (Nat.le_refl _) _).setCell (Nat.le_refl _) _
theorem zK2 (v : Int) (hv : U32 v) (h0 : opW v ≠ 0) (hoc : ocV (opW v) ≠ 47 ∧ ocV (opW v) ≠ 15) (w : World) (T : Tab6 w) :
    Calls Tryz.prog 55 #[.int .u32 v] w fun e w' => e = .returned (.tuple #[insV (decI v), .int .i64 (decE v)]) ∧ Below w.heap.size w w' := by
  obtain ⟨h1, hi⟩ := zu4 h0
  have hq := hi.1
  have KO := fun x (h : BW w x) => zm3 v hv x (T.below h)
  have HD1 : decI v = zd8 v (opW v) := by unfold decI; rw [if_neg h0]
  have HD2 : Hid (decE v = 0) := zw1 h0
  have HRW := (Zr3 h1 hi).2.2 hoc.1 hoc.2
  have KI := fun x (h : BW w x) => imm_c (opW v) v hv h1 hq x (T.below h)
  have KP := fun x => zn7 v hv x
  rw [hq] at KP
  have P1 := fun x => zg6 v 11 7 hv x
  have P2 := fun x => zg6 v 19 15 hv x
  have P3 := fun x => zg6 v 24 20 hv x
  rw [fo_rd] at P1
  rw [fo_r1] at P2
  rw [zX2] at P3
  have KC := fun x (h : BW w x) => zC3 (rawI v (opW v) false false 0 0) (zN8 h1) x (T.below h)
  rw [← HRW, ← HD1] at KC
  have KC : ∀ x, BW w x → Calls Tryz.prog 105 #[insV (rawI v (opW v) false false 0 0)] x fun e w' => e = .returned (.agg (za0 (decI v))) ∧ Below x.heap.size x w' := fun x h => by have := KC x h; rw [zo3 (decI v)] at this; exact this
  unfold rawI insV at KC
  have hb0 : (opW v == 0) = false := by simpa using h0
  rw [zo3]
  clear HD1 HRW T hi h1 h0 hv
  generalize decI v = zz at *
  generalize decE v = ee at *
  simp only at KC
  generalize hI : immV v (opW v) = imm at *
  generalize hX : v / 128 % 32 = x1 at *
  generalize hY : v / 32768 % 32 = x2 at *
  generalize hZ : v / 1048576 % 32 = x3 at *
  clear hI hX hY hZ
  generalize opW v = op at *
  have b47 : (ocV op == 47) = false := by simpa using hoc.1
  have b15 : (ocV op == 15) = false := by simpa using hoc.2
  generalize ocV op = q at *
  clear hoc hq
  go_enter Tryz.func55, Tryz.ntmps55
  go_upto_region 1 with (fail)
  have HR : Hid (Blk (za0 za5) 39 w.heap.size (w.alloc (.cells (za0 za5) 39))) := Blk.new _ _ w
  have HB0 : Hid (Below w.heap.size w (w.alloc (.cells (za0 za5) 39))) := (Below.refl _ _).alloc (Nat.le_refl _) _
  unfold za5 za0 at HR HB0
  simp only at HR HB0
  generalize w.alloc (.cells _ 39) = w0 at *
  have HRN : Hid (Blk (za0 za5) 39 w.heap.size w0) := HR.out
  clear HR
  go_upto_region 5 with (first
    | (go_at_call 101; refine (KO _ HB0.out).mono ?_; rintro e w4 ⟨rfl, hb⟩; have HB4 := Lib.hid hb; clear hb)
    | (go_at_call 102; ((with_reducible refine (P1 _).mono ?_); rintro e wz ⟨rfl, rfl⟩))
    | (go_at_call 102; ((with_reducible refine (P2 _).mono ?_); rintro e wz ⟨rfl, rfl⟩))
    | (go_at_call 102; ((with_reducible refine (P3 _).mono ?_); rintro e wz ⟨rfl, rfl⟩))
    | (go_at_call 103; refine (KI _ (BW.on HB0.out HB4.out)).mono ?_; rintro e w5 ⟨rfl, hb⟩; have HB5 := Lib.hid (show BW w0 w5 from BW.on HB4.out hb); clear hb))
  have HJ : Jn w0 ⟨op, x1, x2, x3, imm, false, false, 0, 0⟩ w5.heap.size (w5.alloc (.cells (za0 ⟨op, x1, x2, x3, imm, false, false, 0, 0⟩) 39)) := ⟨BW.new HB5.out _, Blk.new _ _ _, Below.size HB5.out⟩
  unfold za0 at HJ
  simp only at HJ
  generalize w5.alloc (.cells _ 39) = w6 at *
  obtain ⟨g, hg⟩ : ∃ g, w5.heap.size = g := ⟨_, rfl⟩
  rw [hg] at HJ ⊢
  clear hg HB5 HB4
  obtain ⟨c0, c1, c2, c3, c4, c5, c6, c7, c8⟩ := HJ.cells
  obtain ⟨f1, f2, f3, f4, f5, f6, f7, f8⟩ := HJ.frees
  simp only at c0 c1 c2 c3 c4 c5 c6 c7 c8
  go_upto_region 10 with (first
    | (go_at_call 104; refine (KP _).mono ?_; rintro e wz ⟨rfl, rfl⟩))
  clear c0 c1 c2 c3 c4 c5 c6 c7 c8 f1 f2 f3 f4 f5 f6 f7 f8
  have HBB := HJ.2.1
  go_wp2_with (first
    | (with_reducible refine za8 (o := ⟨some 42, _, _, _, _, _⟩) rfl 39 (.tmp 5) rfl HBB rfl Tryz.underlying39 rfl (by kernel_rfl) ?_)
    | (go_at_call 105; refine (KC _ (BW.on HB0.out HJ.1)).mono ?_; rintro e w8 ⟨rfl, hb⟩; obtain ⟨w9, hs, hb9, hbw⟩ := zL6 (P := Tryz.prog) zz HRN.out HB0.out (HJ.1.on hb); clear hb))
  rw [HD2.out]
  exact bodyPost_ret (zc2 rfl rfl hb9 Tryz.underlying39 rfl (by kernel_rfl)) rfl ⟨rfl, hbw⟩
theorem Zk2 (v : Int) (hv : U32 v) (h0 : opW v ≠ 0) (hoc : ocV (opW v) = 47) (ba bl : Bool) (HRW : zd8 v (opW v) = clnI (rawI v (opW v) ba bl 0 0)) (e4 : (v / 67108864 % 2 == 1) = ba) (e5 : (v / 33554432 % 2 == 1) = bl) (w : World) (T : Tab6 w) :
    Calls Tryz.prog 55 #[.int .u32 v] w fun e w' => e = .returned (.tuple #[insV (decI v), .int .i64 (decE v)]) ∧ Below w.heap.size w w' := by
  obtain ⟨h1, hi⟩ := zu4 h0
  have hq := hi.1
  have KO := fun x (h : BW w x) => zm3 v hv x (T.below h)
  have HD1 : decI v = zd8 v (opW v) := by unfold decI; rw [if_neg h0]
  have HD2 : Hid (decE v = 0) := zw1 h0
  have KI := fun x (h : BW w x) => imm_c (opW v) v hv h1 hq x (T.below h)
  have KP := fun x => zn7 v hv x
  rw [hq] at KP
  have P1 := fun x => zg6 v 11 7 hv x
  have P2 := fun x => zg6 v 19 15 hv x
  have P3 := fun x => zg6 v 24 20 hv x
  have P4 := fun x => zg6 v 26 26 hv x
  have P5 := fun x => zg6 v 25 25 hv x
  rw [fo_aq] at P4
  rw [fo_rl] at P5
  rw [hoc] at KP
  rw [fo_rd] at P1
  rw [fo_r1] at P2
  rw [zX2] at P3
  have KC := fun x (h : BW w x) => zC3 (rawI v (opW v) ba bl 0 0) (zN8 h1) x (T.below h)
  rw [← HRW, ← HD1] at KC
  have KC : ∀ x, BW w x → Calls Tryz.prog 105 #[insV (rawI v (opW v) ba bl 0 0)] x fun e w' => e = .returned (.agg (za0 (decI v))) ∧ Below x.heap.size x w' := fun x h => by have := KC x h; rw [zo3 (decI v)] at this; exact this
  unfold rawI insV at KC
  have hb0 : (opW v == 0) = false := by simpa using h0
  rw [zo3]
  clear HD1 HRW T hi h1 h0 hv
  generalize decI v = zz at *
  generalize decE v = ee at *
  simp only at KC
  generalize hI : immV v (opW v) = imm at *
  generalize hX : v / 128 % 32 = x1 at *
  generalize hY : v / 32768 % 32 = x2 at *
  generalize hZ : v / 1048576 % 32 = x3 at *
  clear hI hX hY hZ
  generalize opW v = op at *
  generalize v / 67108864 % 2 = x4 at *
  generalize v / 33554432 % 2 = x5 at *
  clear hoc hq
  go_enter Tryz.func55, Tryz.ntmps55
  go_upto_region 1 with (fail)
  have HR : Hid (Blk (za0 za5) 39 w.heap.size (w.alloc (.cells (za0 za5) 39))) := Blk.new _ _ w
  have HB0 : Hid (Below w.heap.size w (w.alloc (.cells (za0 za5) 39))) := (Below.refl _ _).alloc (Nat.le_refl _) _
  unfold za5 za0 at HR HB0
  simp only at HR HB0
  generalize w.alloc (.cells _ 39) = w0 at *
  have HRN : Hid (Blk (za0 za5) 39 w.heap.size w0) := HR.out
  clear HR
  go_upto_region 5 with (first
    | (go_at_call 101; refine (KO _ HB0.out).mono ?_; rintro e w4 ⟨rfl, hb⟩; have HB4 := Lib.hid hb; clear hb)
    | (go_at_call 102; ((with_reducible refine (P1 _).mono ?_); rintro e wz ⟨rfl, rfl⟩))
    | (go_at_call 102; ((with_reducible refine (P2 _).mono ?_); rintro e wz ⟨rfl, rfl⟩))
    | (go_at_call 102; ((with_reducible refine (P3 _).mono ?_); rintro e wz ⟨rfl, rfl⟩))
    | (go_at_call 103; refine (KI _ (BW.on HB0.out HB4.out)).mono ?_; rintro e w5 ⟨rfl, hb⟩; have HB5 := Lib.hid (show BW w0 w5 from BW.on HB4.out hb); clear hb))
  have HJ : Jn w0 ⟨op, x1, x2, x3, imm, false, false, 0, 0⟩ w5.heap.size (w5.alloc (.cells (za0 ⟨op, x1, x2, x3, imm, false, false, 0, 0⟩) 39)) := ⟨BW.new HB5.out _, Blk.new _ _ _, Below.size HB5.out⟩
  unfold za0 at HJ
  simp only at HJ
  generalize w5.alloc (.cells _ 39) = w6 at *
  obtain ⟨g, hg⟩ : ∃ g, w5.heap.size = g := ⟨_, rfl⟩
  rw [hg] at HJ ⊢
  clear hg HB5 HB4
  obtain ⟨c0, c1, c2, c3, c4, c5, c6, c7, c8⟩ := HJ.cells
  obtain ⟨f1, f2, f3, f4, f5, f6, f7, f8⟩ := HJ.frees
  simp only at c0 c1 c2 c3 c4 c5 c6 c7 c8
  go_upto_region 10 with (first
    | (go_at_call 104; refine (KP _).mono ?_; rintro e wz ⟨rfl, rfl⟩)
    | (go_at_call 102; ((with_reducible refine (P4 _).mono ?_); rintro e wz ⟨rfl, rfl⟩))
    | (go_at_call 102; ((with_reducible refine (P5 _).mono ?_); rintro e wz ⟨rfl, rfl⟩)))
  have HJ := (HJ.s5 ba).s6 bl
  simp only at HJ
  try rw [e4]
  try rw [e5]
  generalize (w6.setCell ⟨g, 5, none⟩ (.bool ba)).setCell ⟨g, 6, none⟩ (.bool bl) = w7 at *
  clear c0 c1 c2 c3 c4 c5 c6 c7 c8 f1 f2 f3 f4 f5 f6 f7 f8
  have HBB := HJ.2.1
  go_wp2_with (first
    | (with_reducible refine za8 (o := ⟨some 42, _, _, _, _, _⟩) rfl 39 (.tmp 5) rfl HBB rfl Tryz.underlying39 rfl (by kernel_rfl) ?_)
    | (go_at_call 105; refine (KC _ (BW.on HB0.out HJ.1)).mono ?_; rintro e w8 ⟨rfl, hb⟩; obtain ⟨w9, hs, hb9, hbw⟩ := zL6 (P := Tryz.prog) zz HRN.out HB0.out (HJ.1.on hb); clear hb))
  rw [HD2.out]
  exact bodyPost_ret (zc2 rfl rfl hb9 Tryz.underlying39 rfl (by kernel_rfl)) rfl ⟨rfl, hbw⟩
theorem zY8 (v : Int) (hv : U32 v) (h0 : opW v ≠ 0) (hoc : ocV (opW v) = 15) (w : World) (T : Tab6 w) :
    Calls Tryz.prog 55 #[.int .u32 v] w fun e w' => e = .returned (.tuple #[insV (decI v), .int .i64 (decE v)]) ∧ Below w.heap.size w w' := by
  obtain ⟨h1, hi⟩ := zu4 h0
  have hq := hi.1
  have KO := fun x (h : BW w x) => zm3 v hv x (T.below h)
  have HD1 : decI v = zd8 v (opW v) := by unfold decI; rw [if_neg h0]
  have HD2 : Hid (decE v = 0) := zw1 h0
  have HRW := (Zr3 h1 hi).2.1 hoc
  have KI := fun x (h : BW w x) => imm_c (opW v) v hv h1 hq x (T.below h)
  have KP := fun x => zn7 v hv x
  rw [hq] at KP
  have P1 := fun x => zg6 v 11 7 hv x
  have P2 := fun x => zg6 v 19 15 hv x
  have P3 := fun x => zg6 v 24 20 hv x
  have P4 := fun x => zg6 v 27 24 hv x
  have P5 := fun x => zg6 v 23 20 hv x
  rw [fo_pr] at P4
  rw [fo_su] at P5
  rw [hoc] at KP
  rw [fo_rd] at P1
  rw [fo_r1] at P2
  rw [zX2] at P3
  have KC := fun x (h : BW w x) => zC3 (rawI v (opW v) false false (v / 16777216 % 16) (v / 1048576 % 16)) (zN8 h1) x (T.below h)
  rw [← HRW, ← HD1] at KC
  have KC : ∀ x, BW w x → Calls Tryz.prog 105 #[insV (rawI v (opW v) false false (v / 16777216 % 16) (v / 1048576 % 16))] x fun e w' => e = .returned (.agg (za0 (decI v))) ∧ Below x.heap.size x w' := fun x h => by have := KC x h; rw [zo3 (decI v)] at this; exact this
  unfold rawI insV at KC
  have hb0 : (opW v == 0) = false := by simpa using h0
  rw [zo3]
  clear HD1 HRW T hi h1 h0 hv
  generalize decI v = zz at *
  generalize decE v = ee at *
  simp only at KC
  generalize hI : immV v (opW v) = imm at *
  generalize hX : v / 128 % 32 = x1 at *
  generalize hY : v / 32768 % 32 = x2 at *
  generalize hZ : v / 1048576 % 32 = x3 at *
  clear hI hX hY hZ
  generalize opW v = op at *
  generalize v / 16777216 % 16 = x4 at *
  generalize v / 1048576 % 16 = x5 at *
  clear hoc hq
  go_enter Tryz.func55, Tryz.ntmps55
  go_upto_region 1 with (fail)
  have HR : Hid (Blk (za0 za5) 39 w.heap.size (w.alloc (.cells (za0 za5) 39))) := Blk.new _ _ w
  have HB0 : Hid (Below w.heap.size w (w.alloc (.cells (za0 za5) 39))) := (Below.refl _ _).alloc (Nat.le_refl _) _
  unfold za5 za0 at HR HB0
  simp only at HR HB0
  generalize w.alloc (.cells _ 39) = w0 at *
  have HRN : Hid (Blk (za0 za5) 39 w.heap.size w0) := HR.out
  clear HR
  go_upto_region 5 with (first
    | (go_at_call 101; refine (KO _ HB0.out).mono ?_; rintro e w4 ⟨rfl, hb⟩; have HB4 := Lib.hid hb; clear hb)
    | (go_at_call 102; ((with_reducible refine (P1 _).mono ?_); rintro e wz ⟨rfl, rfl⟩))
    | (go_at_call 102; ((with_reducible refine (P2 _).mono ?_); rintro e wz ⟨rfl, rfl⟩))
    | (go_at_call 102; ((with_reducible refine (P3 _).mono ?_); rintro e wz ⟨rfl, rfl⟩))
    | (go_at_call 103; refine (KI _ (BW.on HB0.out HB4.out)).mono ?_; rintro e w5 ⟨rfl, hb⟩; have HB5 := Lib.hid (show BW w0 w5 from BW.on HB4.out hb); clear hb))
  have HJ : Jn w0 ⟨op, x1, x2, x3, imm, false, false, 0, 0⟩ w5.heap.size (w5.alloc (.cells (za0 ⟨op, x1, x2, x3, imm, false, false, 0, 0⟩) 39)) := ⟨BW.new HB5.out _, Blk.new _ _ _, Below.size HB5.out⟩
  unfold za0 at HJ
  simp only at HJ
  generalize w5.alloc (.cells _ 39) = w6 at *
  obtain ⟨g, hg⟩ : ∃ g, w5.heap.size = g := ⟨_, rfl⟩
  rw [hg] at HJ ⊢
  clear hg HB5 HB4
  obtain ⟨c0, c1, c2, c3, c4, c5, c6, c7, c8⟩ := HJ.cells
  obtain ⟨f1, f2, f3, f4, f5, f6, f7, f8⟩ := HJ.frees
  simp only at c0 c1 c2 c3 c4 c5 c6 c7 c8
  go_upto_region 10 with (first
    | (go_at_call 104; refine (KP _).mono ?_; rintro e wz ⟨rfl, rfl⟩)
    | (go_at_call 102; ((with_reducible refine (P4 _).mono ?_); rintro e wz ⟨rfl, rfl⟩))
    | (go_at_call 102; ((with_reducible refine (P5 _).mono ?_); rintro e wz ⟨rfl, rfl⟩)))
  have HJ := (HJ.s7 x4).s8 x5
  simp only at HJ
  generalize (w6.setCell ⟨g, 7, none⟩ (.int .i64 x4)).setCell ⟨g, 8, none⟩ (.int .i64 x5) = w7 at *
  clear c0 c1 c2 c3 c4 c5 c6 c7 c8 f1 f2 f3 f4 f5 f6 f7 f8
  have HBB := HJ.2.1
  go_wp2_with (first
    | (with_reducible refine za8 (o := ⟨some 42, _, _, _, _, _⟩) rfl 39 (.tmp 5) rfl HBB rfl Tryz.underlying39 rfl (by kernel_rfl) ?_)
    | (go_at_call 105; refine (KC _ (BW.on HB0.out HJ.1)).mono ?_; rintro e w8 ⟨rfl, hb⟩; obtain ⟨w9, hs, hb9, hbw⟩ := zL6 (P := Tryz.prog) zz HRN.out HB0.out (HJ.1.on hb); clear hb))
  rw [HD2.out]
  exact bodyPost_ret (zc2 rfl rfl hb9 Tryz.underlying39 rfl (by kernel_rfl)) rfl ⟨rfl, hbw⟩
theorem Zi9 (x : Int) : (x == 1) = decide (x = 1) := rfl
theorem decode_c (v : Int) (hv : U32 v) (w : World) (T : Tab6 w) :
    Calls Tryz.prog 55 #[.int .u32 v] w fun e w' => e = .returned (.tuple #[insV (decI v), .int .i64 (decE v)]) ∧ Below w.heap.size w w' := by
  by_cases h0 : opW v = 0
  · exact Zj5 v hv h0 w T
  by_cases h1 : ocV (opW v) = 47
  · exact Zk2 v hv h0 h1 _ _ ((Zr3 (zu4 h0).1 (zu4 h0).2).1 h1) (Zi9 _) (Zi9 _) w T
  by_cases h2 : ocV (opW v) = 15
  · exact zY8 v hv h0 h2 w T
  exact zK2 v hv h0 ⟨h1, h2⟩ w T
end Go.Proofs.YtmamblgpekafbaaGreatDoor
