/- Of stage 11. -/
import Derived.Test.YtoeekibcelaloaaGreatDoorQpp
set_option linter.unusedVariables false
set_option maxRecDepth 100000
namespace Go.Proofs.YtoeekibcelaloaaGreatDoor
open Go.RowKit
theorem Zg0 (w : World) (i : Ins) : ∃ w1, (storeVar 29 ⟨w.heap.size, 0, none⟩ (.agg (za0 i))).run Tryz.prog (w.alloc (.cells (za0 za5) 29)) = .ok () w1 ∧ Blk (za0 i) 29 w.heap.size w1 ∧ BW w w1 := by
  obtain ⟨w1, e1, b1, k1⟩ := (Has.of (Blk.new (za0 za5) 29 w) (n := 9) rfl).put (P := Tryz.prog) (za0 i) rfl (zn7 i) (ty := 29) (by kernel_rfl)
  exact ⟨w1, e1, b1, ((Below.refl w.heap.size w).alloc (Nat.le_refl _) _).grown k1 (by simp) (fun r hr => by cases hr; exact Nat.le_refl _)⟩
set_option maxHeartbeats 4000000 in
theorem Zi3 {W : World} (T : TabQ W) (h : Hrt) (hw : Wh h) (A : Option Addr) (cap : Nat) (B : List Int) (hb : ∀ b ∈ B, 0 ≤ b ∧ b < 256) (hn : B.length ≤ 9223372036854775807) (hc : B.length ≤ cap) (hc2 : cap ≤ 9223372036854775807) (hr : Rd W W.heap.size A (zb0 B)) (read : Int) (hrd : U64 read) (failed : Bool) :
    Calls Tryz.prog 3 #[.agg (za2 h), .slice A B.length cap, .int .u64 read, .bool failed] W fun e w' => e = .returned (.bool true) ∧ Below W.heap.size W w' := by
  have KA := fun x (hx : BW W x) => (zJ7 T x hx).mono fun e w' ⟨h1, _, h3⟩ => (⟨h1, h3⟩ : _ ∧ Below x.heap.size x w')
  have H1 : Hid (Blk (za2 h) 25 W.heap.size (W.alloc (.cells (za2 h) 25))) := Blk.new _ _ _
  have HB1 : Hid (BW W (W.alloc (.cells (za2 h) 25))) := BW.new (Below.refl _ _) _
  by_cases h1 : B.length ≤ 1024
  · have d1 : decide ((1024 : Int) < B.length) = false := decide_eq_false (by omega)
    have HIM : ImgAt W A cap B := ⟨hr, hb, h1, hc, hc2⟩
    have KF1 := fun x (hx : BW W x) => Zn9 A cap B h.pc x (T.t11.below hx).t6 (HIM.on hx) hw.pc
    have KF2 := fun x (hx : BW W x) => zQ7 A cap B h.pc x (HIM.on hx) hw.pc
    have KS1 := fun x (hx : BW W x) => step_c h A cap B read failed x (T.t11.below hx) (HIM.on hx) hw hrd
    have KS2 := Lib.hid (fun (hcz : h.cause = 0) x (hx : BW W x) => rstep_c h A cap B read failed x (HIM.on hx) hw hrd hcz)
    have hl := (stp_wh hw B read failed).len
    have hl0 := hw.len
    have q0 : (za2 h)[0]? = some (.int .u64 h.pc) := zt0 h
    have q33 := zf5 hl0
    have HI0 := Lib.hid (zb5 hl0)
    have HI1 := Lib.hid (zb5 hl)
    have HHL : Hid (h.cause ≠ 0 → stpH h B read failed = zerX h ∧ stpD h B read failed = noDn) := fun g => ⟨by unfold stpH; rw [if_neg g], by unfold stpD; rw [if_neg g]⟩
    have HW := Lib.hid hw
    generalize stpH h B read failed = a at *
    generalize stpD h B read failed = d at *
    generalize fetI B h.pc = fi at *
    generalize fetC B h.pc = fc at *
    have KW1 := fun x => two_new x a d hl
    have HL := Lib.hid hl
    clear T hb hr hw hl0 hl
    unfold zo9 at KS1
    unfold RetF insV at KF1 KF2
    go_enter Tryz.func3, Tryz.ntmps3
    go_upto_region 1 with (fail)
    generalize W.alloc (.cells _ 25) = w1 at *
    go_upto_region 5 with (first
      | (go_at_call 5; refine (KA _ HB1.out).mono ?_; rintro e w2 ⟨rfl, hb2⟩; have HB2 := Lib.hid (HB1.out.on hb2); have H2 := H1.out.on hb2; clear hb2))
    have p0 := (H2.cell 0).trans q0
    go_upto_region 6 with (first
      | (go_at_call 6; refine (KF1 _ HB2.out).mono ?_; rintro e w3 ⟨rfl, hb3⟩; have HB3 := HB2.out.on hb3; have H3 := H2.on hb3; clear hb3; obtain ⟨w4, e4, b4, hb4⟩ := Zg0 w3 fi; have HB4 := Lib.hid (HB3.on hb4); have H4 := H3.on hb4; clear hb4)
      | (refine zc3 (o := ⟨none, .store _ (.tmp 9) (.tmp 28), _, _, _, _⟩) rfl 29 (.tmp 9) (.tmp 28) rfl rfl rfl e4 ?_))
    clear e4 HB3 H3 HB2 H2 p0 KF1
    have p0 := (H4.cell 0).trans q0
    go_upto_region 7 with (first
      | (go_at_call 7; refine (KF2 _ HB4.out).mono ?_; rintro e w5 ⟨rfl, hb5⟩; have HB5 := HB4.out.on hb5; have H5 := H4.on hb5; have B5 := b4.on hb5; clear hb5; obtain ⟨w6, e6, b6, hb6⟩ := Zg0 w5 fi; have HB6 := Lib.hid (HB5.on hb6); have H6 := H5.on hb6; have B6 := B5.on hb6; clear hb6)
      | (refine zc3 (o := ⟨none, .store _ (.tmp 11) (.tmp 35), _, _, _, _⟩) rfl 29 (.tmp 11) (.tmp 35) rfl rfl rfl e6 ?_))
    clear e6 HB5 H5 B5 HB4 H4 b4 p0 KF2
    go_upto_region 8 with (first
      | (with_reducible refine za7 (o := ⟨some 38, _, _, _, _, _⟩) rfl 25 (.tmp 4) rfl H6 rfl Tryz.underlying25 rfl HI0.out ?_)
      | (go_at_call 8; refine (KS1 _ HB6.out).mono ?_; rintro e w7 ⟨rfl, hb7⟩; have HB7 := HB6.out.on hb7; have H7 := H6.on hb7; have B7 := B6.on hb7; have C7 := b6.on hb7; clear hb7; obtain ⟨w8, w9, e8, e9, b8, b9, hb9⟩ := KW1 w7; have HB9 := Lib.hid (HB7.on hb9); have H9 := H7.on hb9; have B9 := B7.on hb9; have C9 := C7.on hb9; clear hb9)
      | (refine zc3 (o := ⟨none, .store _ (.tmp 13) (.tmp 43), _, _, _, _⟩) rfl 25 (.tmp 13) (.tmp 43) rfl rfl rfl e8 ?_)
      | (refine zc3 (o := ⟨none, .store _ (.tmp 14) (.tmp 44), _, _, _, _⟩) rfl 33 (.tmp 14) (.tmp 44) rfl rfl rfl e9 ?_))
    have hlt7 := H7.lt
    clear e8 e9 HB7 H7 B7 C7 HB6 H6 B6 b6 KS1
    obtain ⟨g8, hg8⟩ : ∃ g, w7.heap.size = g := ⟨_, rfl⟩
    rw [hg8] at b8 b9 hlt7 ⊢
    clear hg8
    have KN : ∀ x, (binOp .neq 29 (.agg (za0 fi)) (.agg (za0 fi))).run Tryz.prog x = .ok (.bool false) x := fun x => by
      have e := zN9 fi fi x
      rw [(zN4 fi fi).2 rfl] at e
      exact e
    have p33 := (H9.cell 33).trans q33
    have KE : ∀ x, (binOp .eql 25 (.agg (za2 a)) (.agg (za2 a))).run Tryz.prog x = .ok (.bool true) x := fun x => by
      have e := zV0 a a HL.out HL.out x
      rw [zU3] at e
      exact e
    have KF : ∀ x, (binOp .eql 33 (.agg (za3 d)) (.agg (za3 d))).run Tryz.prog x = .ok (.bool true) x := fun x => by
      have e := Zo3 d d x
      rw [Zh7] at e
      exact e
    by_cases hcz : h.cause = 0
    · have hz : (h.cause != 0) = false := by simpa using hcz
      have KS3 := KS2.out hcz
      unfold zo9 at KS3
      clear hcz KS2 HHL
      go_upto_region 14 with (first
        | (refine zg6 (o := ⟨some 45, _, _, _, _, _⟩) (by kernel_rfl) (zd2 29 (.tmp 9) rfl rfl B9 Tryz.underlying29 rfl (by kernel_rfl)) ?_)
        | (refine zg6 (o := ⟨some 46, _, _, _, _, _⟩) (by kernel_rfl) (zd2 29 (.tmp 11) rfl rfl C9 Tryz.underlying29 rfl (by kernel_rfl)) ?_)
        | (refine zg6 (o := ⟨some 47, _, _, _, _, _⟩) (by kernel_rfl) (zo2 rfl (by kernel_rfl) rfl rfl (KN _)) ?_)
        | (with_reducible refine za7 (o := ⟨some 70, _, _, _, _, _⟩) rfl 25 (.tmp 4) rfl H9 rfl Tryz.underlying25 rfl HI0.out ?_)
        | (go_at_call 9; refine (KS3 _ HB9.out).mono ?_; rintro e w10 ⟨rfl, hb10⟩; have HB10 := HB9.out.on hb10; have D10 := b8.on hb10; have E10 := b9.on hb10; clear hb10; obtain ⟨w11, w12, e11, e12, b11, b12, hb12⟩ := KW1 w10; have HB12 := Lib.hid (HB10.on hb12); have D12 := D10.on hb12; have E12 := E10.on hb12; clear hb12)
        | (refine zc3 (o := ⟨none, .store _ (.tmp 15) (.tmp 75), _, _, _, _⟩) rfl 25 (.tmp 15) (.tmp 75) rfl rfl rfl e11 ?_)
        | (refine zc3 (o := ⟨none, .store _ (.tmp 16) (.tmp 76), _, _, _, _⟩) rfl 33 (.tmp 16) (.tmp 76) rfl rfl rfl e12 ?_))
      clear e11 e12 HB10 D10 E10 HB9 H9 B9 C9 b8 b9 KS3 p33
      obtain ⟨gC, hgC⟩ : ∃ g, w10.heap.size = g := ⟨_, rfl⟩
      rw [hgC] at b11 b12 ⊢
      clear hgC
      go_wp2_with (first
        | (go_at_call 5; refine (KA _ HB12.out).mono ?_; rintro e w13 ⟨rfl, hb13⟩; have HB13 := Lib.hid (HB12.out.on hb13); have D13 := D12.on hb13; have E13 := E12.on hb13; have F13 := b11.on hb13; have G13 := b12.on hb13; clear hb13)
        | (refine zg6 (o := ⟨some 79, _, _, _, _, _⟩) (by kernel_rfl) (zd2 25 (.tmp 13) rfl rfl D13 Tryz.underlying25 rfl HI1.out) ?_)
        | (refine zg6 (o := ⟨some 80, _, _, _, _, _⟩) (by kernel_rfl) (zd2 25 (.tmp 15) rfl rfl F13 Tryz.underlying25 rfl HI1.out) ?_)
        | (refine zg6 (o := ⟨some 81, _, _, _, _, _⟩) (by kernel_rfl) (zo2 rfl zH3 rfl rfl (KE _)) ?_)
        | (refine zg6 (o := ⟨some 84, _, _, _, _, _⟩) (by kernel_rfl) (zd2 33 (.tmp 14) rfl rfl E13 Tryz.underlying33 rfl (by kernel_rfl)) ?_)
        | (refine zg6 (o := ⟨some 85, _, _, _, _, _⟩) (by kernel_rfl) (zd2 33 (.tmp 16) rfl rfl G13 Tryz.underlying33 rfl (by kernel_rfl)) ?_)
        | (refine zg6 (o := ⟨some 86, _, _, _, _, _⟩) (by kernel_rfl) (zo2 rfl zO9 rfl rfl (KF _)) ?_))
      go_ret
      exact ⟨rfl, HB13.out⟩
    · have hz : (h.cause != 0) = true := by simpa using hcz
      obtain ⟨rfl, rfl⟩ := HHL.out hcz
      have q1 := (H9.cell (1 + 0)).trans (zl4 HW.out.len (r := 0) (by omega))
      have f1 := H9.free 1
      rw [show 1 + 0 = 1 from rfl] at q1
      clear hcz KS2 HHL
      have hg1 := H9.lt
      go_upto_region 12 with (first
        | (refine zg6 (o := ⟨some 45, _, _, _, _, _⟩) (by kernel_rfl) (zd2 29 (.tmp 9) rfl rfl B9 Tryz.underlying29 rfl (by kernel_rfl)) ?_)
        | (refine zg6 (o := ⟨some 46, _, _, _, _, _⟩) (by kernel_rfl) (zd2 29 (.tmp 11) rfl rfl C9 Tryz.underlying29 rfl (by kernel_rfl)) ?_)
        | (refine zg6 (o := ⟨some 47, _, _, _, _, _⟩) (by kernel_rfl) (zo2 rfl (by kernel_rfl) rfl rfl (KN _)) ?_))
      have HZ : (za2 h).setIfInBounds 1 (.int .u64 0) = za2 (zerX h) := zk1 HW.out.len (r := 0) (by omega) 0
      have Z10 := H9.set 1 (.int .u64 0)
      rw [HZ] at Z10
      have b10 := Lib.hid (b8.other (a := ⟨W.heap.size, 1, none⟩) (by show g8 ≠ W.heap.size; omega) (.int .u64 0))
      have d10 := Lib.hid (b9.other (a := ⟨W.heap.size, 1, none⟩) (by show g8 + 1 ≠ W.heap.size; omega) (.int .u64 0))
      have HB10 : Hid (BW W (w9.setCell ⟨W.heap.size, 1, none⟩ (.int .u64 0))) := Below.setCell HB9.out (Nat.le_refl _) _
      clear b8 b9 HB9 H9 B9 C9 q1 f1 HZ hlt7 hg1 p33
      generalize w9.setCell _ _ = w10 at *
      have HI2 : Hid ((Tryz.prog.info? 25).map (·.size) = some (za2 (zerX h)).size) := HI1
      go_wp2_with (first
        | (go_at_call 5; refine (KA _ HB10.out).mono ?_; rintro e w13 ⟨rfl, hb13⟩; have HB13 := Lib.hid (HB10.out.on hb13); have D13 := b10.out.on hb13; have E13 := d10.out.on hb13; have F13 := Z10.on hb13; clear hb13)
        | (refine zg6 (o := ⟨some 60, _, _, _, _, _⟩) (by kernel_rfl) (zd2 25 (.tmp 13) rfl rfl D13 Tryz.underlying25 rfl HI2.out) ?_)
        | (refine zg6 (o := ⟨some 61, _, _, _, _, _⟩) (by kernel_rfl) (zd2 25 (.tmp 4) rfl rfl F13 Tryz.underlying25 rfl HI2.out) ?_)
        | (refine zg6 (o := ⟨some 62, _, _, _, _, _⟩) (by kernel_rfl) (zo2 rfl zH3 rfl rfl (KE _)) ?_)
        | (refine zg6 (o := ⟨some 65, _, _, _, _, _⟩) (by kernel_rfl) (zd2 33 (.tmp 14) rfl rfl E13 Tryz.underlying33 rfl (by kernel_rfl)) ?_)
        | (refine zg6 (o := ⟨some 67, _, _, _, _, _⟩) (by kernel_rfl) (zo2 rfl zO9 rfl rfl (KF _)) ?_))
      go_ret
      exact ⟨rfl, HB13.out⟩
  · have d1 : decide ((1024 : Int) < B.length) = true := decide_eq_true (by omega)
    clear T hb hr hw
    go_enter Tryz.func3, Tryz.ntmps3
    go_upto_region 1 with (fail)
    generalize W.alloc (.cells _ 25) = w1 at *
    go_upto_region 3 with (first
      | (go_at_call 5; refine (KA _ HB1.out).mono ?_; rintro e w2 ⟨rfl, hb2⟩; have HB2 := Lib.hid (HB1.out.on hb2); clear hb2))
    go_wp2_with (first
      | (go_at_call 5; refine (KA _ HB2.out).mono ?_; rintro e w3 ⟨rfl, hb3⟩; have HB3 := Lib.hid (HB2.out.on hb3); clear hb3))
    go_ret
    exact ⟨rfl, HB3.out⟩
end Go.Proofs.YtoeekibcelaloaaGreatDoor
