/- Of stage 11. -/
import Derived.Test.YtoeekibcelaloaaGreatDoorQ7p
set_option linter.unusedVariables false
set_option maxRecDepth 100000
namespace Go.Proofs.YtoeekibcelaloaaGreatDoor
open Go.RowKit
theorem getD_set {l : List Int} {n m : Nat} {v d : Int} : (l.set n v).getD m d = if n = m ∧ m < l.length then v else l.getD m d := by
  rw [List.getD_eq_getElem?_getD, List.getD_eq_getElem?_getD, List.getElem?_set]
  by_cases h : n = m
  · subst h
    by_cases h2 : n < l.length
    · rw [if_pos rfl, if_pos h2, if_pos ⟨rfl, h2⟩]; rfl
    · rw [if_pos rfl, if_neg h2, if_neg (fun g => h2 g.2), List.getElem?_eq_none (by omega)]
  · rw [if_neg h, if_neg (fun g => h g.1)]
theorem wh_set {h : Hrt} (hw : Wh h) (pc : Int) (hp : U64 pc) (k : Nat) (v : Int) (hv : U64 v) : Wh ⟨pc, h.x.set k v, h.cause⟩ :=
  ⟨hp, by simp [hw.len], fun r => by
    show U64 ((h.x.set k v).getD r 0)
    rw [getD_set]
    split
    · exact hv
    · exact hw.x r, hw.cause⟩
theorem zG8 {h : Hrt} (hw : Wh h) : Wh (zerX h) := wh_set hw h.pc hw.pc 0 0 ⟨by decide, by decide⟩
theorem zT1 {h : Hrt} {B : List Int} (hw : Wh h) (hb : ∀ b ∈ B, 0 ≤ b ∧ b < 256) : I64 (begD h B).inst.op ∧ (0 ≤ (begD h B).inst.rs1 ∧ (begD h B).inst.rs1 ≤ 31) ∧ (0 ≤ (begD h B).inst.rs2 ∧ (begD h B).inst.rs2 ≤ 31) ∧ U64 (begD h B).pc ∧ (begD h B).read = 0 := by
  by_cases hc : fetC B h.pc = 0
  · have hr := Zl3 hb hw.pc.1 hc
    rw [zj5 hc]
    have h1 := hr.op
    exact ⟨⟨by show _ ≤ (fetI B h.pc).op; omega, by show (fetI B h.pc).op ≤ _; omega⟩, hr.rs1, hr.rs2, hw.pc, rfl⟩
  · rw [zt6 hc]
    have z : I64 za5.op ∧ (0 ≤ za5.rs1 ∧ za5.rs1 ≤ 31) ∧ (0 ≤ za5.rs2 ∧ za5.rs2 ≤ 31) := ⟨⟨by decide, by decide⟩, ⟨by decide, by decide⟩, ⟨by decide, by decide⟩⟩
    exact ⟨z.1, z.2.1, z.2.2, hw.pc, rfl⟩
structure Stj (W : World) (h : Hrt) (g : Nat) (w : World) : Prop where
  at0 : W.heap.size = g
  bw : BW W w
  hart : Blk (za2 h) 25 g w
  r1 : Has 34 25 (g + 1) w
  r2 : Has 16 33 (g + 2) w
section
variable {W w w' : World} {h : Hrt} {g : Nat}
theorem Stj.on (j : Stj W h g w) (hb : Below w.heap.size w w') : Stj W h g w' := ⟨j.at0, j.bw.on hb, j.hart.on hb, j.r1.on hb, j.r2.on hb⟩
theorem Stj.drew (j : Stj W h g w) : Stj W h g w.drew := ⟨j.at0, Below.drew j.bw, j.hart.drew, j.r1.drew, j.r2.drew⟩
theorem Stj.sh (j : Stj W h g w) (k : Nat) (v : Value) (h' : Hrt) (e : (za2 h).setIfInBounds k v = za2 h') : Stj W h' g (w.setCell ⟨g, k, none⟩ v) :=
  ⟨j.at0, Below.setCell j.bw (by have := j.at0; show _ ≤ g; omega) v, by have := j.hart.set k v; rw [e] at this; exact this, j.r1.other (by show g + 1 ≠ g; omega) v, j.r2.other (by show g + 2 ≠ g; omega) v⟩
theorem Stj.put1 (j : Stj W h g w) (hg : w.grownBy w' (some (g + 1))) (hh : Has 34 25 (g + 1) w') : Stj W h g w' :=
  ⟨j.at0, Below.stored j.bw hg (by have := j.at0; omega) (Below.size j.bw), j.hart.far hg (by omega), hh, j.r2.far hg (by omega)⟩
theorem Stj.put2 (j : Stj W h g w) (hg : w.grownBy w' (some (g + 2))) (hh : Has 16 33 (g + 2) w') : Stj W h g w' :=
  ⟨j.at0, Below.stored j.bw hg (by have := j.at0; omega) (Below.size j.bw), j.hart.far hg (by omega), j.r1.far hg (by omega), hh⟩
end
theorem Ze8 (h : Hrt) (w : World) : Stj w h w.heap.size (((w.alloc (.cells (za2 h) 25)).alloc (.cells (za2 ⟨0, List.replicate 32 0, 0⟩) 25)).alloc (.cells (za3 noDn) 33)) := by
  have h1 := Blk.new (za2 h) 25 w
  have z1 : (w.alloc (.cells (za2 h) 25)).heap.size = w.heap.size + 1 := by simp
  have b1 : BW w (w.alloc (.cells (za2 h) 25)) := BW.new (Below.refl _ _) _
  generalize w.alloc (.cells (za2 h) 25) = w2 at *
  have h3 := Blk.new (za2 ⟨0, List.replicate 32 0, 0⟩) 25 w2
  rw [z1] at h3
  have z3 : (w2.alloc (.cells (za2 ⟨0, List.replicate 32 0, 0⟩) 25)).heap.size = w.heap.size + 2 := by simp [z1]
  have b3 := b1.new (.cells (za2 ⟨0, List.replicate 32 0, 0⟩) 25)
  have h1 := h1.alloc (.cells (za2 ⟨0, List.replicate 32 0, 0⟩) 25)
  generalize w2.alloc (.cells (za2 ⟨0, List.replicate 32 0, 0⟩) 25) = w3 at *
  have h4 := Blk.new (za3 noDn) 33 w3
  rw [z3] at h4
  exact ⟨rfl, b3.new _, h1.alloc _, (Has.of h3 (zb7 (by simp))).on (BW.new (Below.refl w3.heap.size w3) _), Has.of h4 rfl⟩
theorem Zf4 {W w1 : World} {g : Nat} (h : Hrt) (hl : h.x.length = 32) (h1 : Has 34 25 g w1) (h2 : BW W w1) (hg : W.heap.size ≤ g) :
    ∃ w2, (storeVar 25 ⟨g, 0, none⟩ (.agg (za2 h))).run Tryz.prog w1 = .ok () w2 ∧ Blk (za2 h) 25 g w2 ∧ BW W w2 ∧ w1.grownBy w2 (some g) := by
  obtain ⟨w2, e1, e2, e3⟩ := h1.put (P := Tryz.prog) (za2 h) (zb7 hl) (zg9 h) (ty := 25) (zb5 hl)
  exact ⟨w2, e1, e2, Below.stored h2 e3 hg (Below.size h2), e3⟩
set_option maxHeartbeats 4000000 in
theorem step_c (h : Hrt) (A : Option Addr) (cap : Nat) (B : List Int) (read : Int) (failed : Bool) (w : World) (T : Tab11 w) (hi : ImgAt w A cap B) (hw : Wh h) (hr : U64 read) :
    Calls Tryz.prog 8 #[.agg (za2 h), .slice A B.length cap, .int .u64 read, .bool failed] w (zo9 w (stpH h B read failed) (stpD h B read failed)) := by
  have hz := zG8 hw
  have hok := zT1 (B := B) hz hi.2.1
  have KB := fun x (hx : BW w x) => Zh8 (zerX h) A cap B x (T.below hx) (hi.on hx) hz
  have KD := fun x (hx : BW w x) => do_c (zerX h) (begD (zerX h) B) read failed x (T.below hx) hz hok.1 hok.2.1 hok.2.2.1 hr hok.2.2.2.1 (by rw [hok.2.2.2.2]; exact ⟨by decide, by decide⟩)
  have HJ := Ze8 h w
  have HC1 := zl4 hw.len (r := 0) (by omega)
  have HC33 := zf5 hz.len
  have HZ : Hid ((za2 h).setIfInBounds 1 (.int .u64 0) = za2 (zerX h)) := zk1 hw.len (r := 0) (by omega) 0
  have HZL := Lib.hid hz.len
  have HI := Lib.hid (zb5 hz.len)
  have HS := Lib.hid (zb7 hz.len)
  have HO := Lib.hid (zg9 (zerX h))
  have hcz : (zerX h).cause = h.cause := rfl
  rw [hcz] at HC33
  have HE : Hid (h.cause ≠ 0 → stpH h B read failed = zerX h ∧ stpD h B read failed = noDn) := fun hc => ⟨by unfold stpH; rw [if_neg hc], by unfold stpD; rw [if_neg hc]⟩
  have HE2 : Hid (h.cause = 0 → stpH h B read failed = doH (zerX h) (begD (zerX h) B) read failed ∧ stpD h B read failed = doD (zerX h) (begD (zerX h) B) read failed) := fun hc => ⟨by unfold stpH; rw [if_pos hc], by unfold stpD; rw [if_pos hc]⟩
  have hxl : (doH (zerX h) (begD (zerX h) B) read failed).x.length = 32 := by
    unfold doH; split
    · simp only; split
      · exact hz.len
      · rw [List.length_set]; exact hz.len
    · exact hz.len
  have HI2 := Lib.hid (zb5 hxl)
  have HS2 := Lib.hid (zb7 hxl)
  have HO2 := Lib.hid (zg9 (doH (zerX h) (begD (zerX h) B) read failed))
  clear hcz hok hi hr T hxl
  generalize stpH h B read failed = sH at *
  generalize stpD h B read failed = sD at *
  generalize doH (zerX h) (begD (zerX h) B) read failed = oH at *
  generalize doD (zerX h) (begD (zerX h) B) read failed = oD at *
  generalize begD (zerX h) B = bd at *
  generalize h.cause = hc at *
  generalize h.x.getD 0 0 = hx0 at *
  generalize B.length = n at *
  have HJ0 : Hid (Stj w h w.heap.size (((w.alloc (.cells (za2 h) 25)).alloc (.cells #[.int .u64 0, .int .u64 0, .int .u64 0, .int .u64 0, .int .u64 0, .int .u64 0, .int .u64 0, .int .u64 0, .int .u64 0, .int .u64 0, .int .u64 0, .int .u64 0, .int .u64 0, .int .u64 0, .int .u64 0, .int .u64 0, .int .u64 0, .int .u64 0, .int .u64 0, .int .u64 0, .int .u64 0, .int .u64 0, .int .u64 0, .int .u64 0, .int .u64 0, .int .u64 0, .int .u64 0, .int .u64 0, .int .u64 0, .int .u64 0, .int .u64 0, .int .u64 0, .int .u64 0, .int .i64 0] 25)).alloc (.cells #[.int .u64 0, .int .i64 0, .int .i64 0, .int .i64 0, .int .i64 0, .int .i64 0, .bool false, .bool false, .int .i64 0, .int .i64 0, .int .i64 0, .int .u64 0, .int .u64 0, .int .u64 0, .int .u64 0, .bool false] 33))) := HJ
  clear HJ hw hz
  go_enter Tryz.func8, Tryz.ntmps8
  go_upto_region 1 with (fail)
  generalize (((w.alloc _).alloc _).alloc _) = w0 at *
  rw [show w.heap.size + 1 + 1 = w.heap.size + 2 from rfl]
  obtain ⟨g, hg⟩ : ∃ g, w.heap.size = g := ⟨_, rfl⟩
  rw [hg] at HJ0 ⊢
  clear hg
  have q1 := (HJ0.out.hart.cell (1 + 0)).trans HC1
  have f1 := HJ0.out.hart.free 1
  rw [show 1 + 0 = 1 from rfl] at q1
  go_upto_region 2 with (fail)
  have HJ1 := HJ0.out.sh 1 _ _ HZ.out
  clear q1 f1 HC1 HJ0 HZ
  generalize (w0.setCell _ _) = w1 at *
  have q33 := (HJ1.hart.cell 33).trans HC33
  clear HC33
  by_cases h0 : hc = 0
  · obtain ⟨e1, e2⟩ := HE2.out h0
    have HEE := Lib.hid (⟨e1, e2⟩ : sH = oH ∧ sD = oD)
    subst h0
    clear HE HE2 e1 e2
    go_upto_region 4 with (fail)
    have HJ2 := HJ1.drew
    clear HJ1 q33
    refine wp_region_held (S := fun x => Stj w (zerX h) g x) (by kernel_rfl) ?_
    change wpAnyH _ _ _ _ _ _ _ _ (World.drew _)
    generalize World.drew _ = w2 at *
    refine zc4 (i := 0) (oi := ⟨some 17, .load 25 (.tmp 4), _, _, _, _⟩) rfl (by kernel_rfl) (by kernel_rfl) (by kernel_rfl) (fun _ _ _ h => h) rfl 25 (.tmp 4) rfl rfl (fun x hx => hx.hart) Tryz.underlying25 rfl HI.out (by assumption) ?_
    simp only [Act.put, List.setIfInBounds_toArray, List.set_cons_zero, List.set_cons_succ]
    refine zc4 (i := 1) (oi := ⟨some 18, .load 25 (.tmp 4), _, _, _, _⟩) rfl (by kernel_rfl) (by kernel_rfl) (by kernel_rfl) (fun _ _ _ h => h) rfl 25 (.tmp 4) rfl rfl (fun x hx => hx.hart) Tryz.underlying25 rfl HI.out (by assumption) ?_
    simp only [Act.put, List.setIfInBounds_toArray, List.set_cons_zero, List.set_cons_succ]
    refine zc7 (i := 2) (oi := ⟨some 19, .move (.tmp 1), _, _, _, _⟩) (.slice A n cap) rfl (by kernel_rfl) (by kernel_rfl) (by kernel_rfl) (fun _ _ _ h => h) rfl (fun _ _ => rfl) (by assumption) ?_
    simp only [Act.put, List.setIfInBounds_toArray, List.set_cons_zero, List.set_cons_succ]
    refine zc7 (i := 4) (oi := ⟨some 21, .move (.tmp 2), _, _, _, _⟩) (.int .u64 read) rfl (by kernel_rfl) (by kernel_rfl) (by kernel_rfl) (fun _ _ _ h => h) rfl (fun _ _ => rfl) (by assumption) ?_
    simp only [Act.put, List.setIfInBounds_toArray, List.set_cons_zero, List.set_cons_succ]
    refine zc7 (i := 5) (oi := ⟨some 22, .move (.tmp 3), _, _, _, _⟩) (.bool failed) rfl (by kernel_rfl) (by kernel_rfl) (by kernel_rfl) (fun _ _ _ h => h) rfl (fun _ _ => rfl) (by assumption) ?_
    simp only [Act.put, List.setIfInBounds_toArray, List.set_cons_zero, List.set_cons_succ]
    refine zF5 (i := 3) (oi := ⟨some 20, .call _, _, _, _, _⟩) (by kernel_rfl) rfl rfl (by first | rfl | kernel_rfl) (KB _ HJ2.bw) ?_
    rintro e w3 ⟨rfl, hb⟩
    have HJ3 := HJ2.on hb
    refine ⟨_, rfl, HJ3, ?_⟩
    simp only [Act.put, List.setIfInBounds_toArray, List.set_cons_zero, List.set_cons_succ]
    clear hb HJ2
    refine zF5 (i := 6) (oi := ⟨some 23, .call _, _, _, _, _⟩) (by kernel_rfl) rfl rfl (by first | rfl | kernel_rfl) (KD _ HJ3.bw) ?_
    rintro e w4 ⟨rfl, hb⟩
    have HJ4 := HJ3.on hb
    refine ⟨_, rfl, HJ4, ?_⟩
    simp only [Act.put, List.setIfInBounds_toArray, List.set_cons_zero, List.set_cons_succ]
    clear hb HJ3
    refine zc7 (i := 7) (oi := ⟨some 24, .extract (.tmp 23) 0, _, _, _, _⟩) (.agg (za2 oH)) rfl (by kernel_rfl) (by kernel_rfl) (by kernel_rfl) (fun _ _ _ h => h) rfl (fun _ _ => rfl) (by assumption) ?_
    simp only [Act.put, List.setIfInBounds_toArray, List.set_cons_zero, List.set_cons_succ]
    refine zc7 (i := 8) (oi := ⟨some 25, .extract (.tmp 23) 1, _, _, _, _⟩) (.agg (za3 oD)) rfl (by kernel_rfl) (by kernel_rfl) (by kernel_rfl) (fun _ _ _ h => h) rfl (fun _ _ => rfl) (by assumption) ?_
    simp only [Act.put, List.setIfInBounds_toArray, List.set_cons_zero, List.set_cons_succ]
    refine zj8 (i := 9) (by kernel_rfl) rfl rfl rfl 25 (.tmp 8) (.tmp 24) rfl rfl rfl HI2.out HS2.out HO2.out HJ4 (fun x hx => hx.r1) (fun u u' hu hg hh => hu.put1 hg hh) ?_
    intro w5 HJ5 hb1 hk1
    refine zj8 (i := 10) (by kernel_rfl) rfl rfl rfl 33 (.tmp 9) (.tmp 25) rfl rfl rfl (by kernel_rfl) rfl (zj2 _) HJ5 (fun x hx => hx.r2) (fun u u' hu hg hh => hu.put2 hg hh) ?_
    intro w6 HJ6 hb2 hk2
    refine wpAnyH_done (by kernel_rfl) ?_ _
    have hb1 := hb1.far hk2 (by omega)
    clear HJ4 HJ5 hk1 hk2 KB KD
    go_wp2
    refine bodyPost_ret (zd1 rfl rfl rfl hb1 hb2 Tryz.underlying25 rfl HI2.out Tryz.underlying33 rfl (by kernel_rfl)) rfl ?_
    exact ⟨by rw [HEE.out.1, HEE.out.2], HJ6.bw⟩
  · obtain ⟨e1, e2⟩ := HE.out h0
    have HEE := Lib.hid (⟨e1, e2⟩ : sH = zerX h ∧ sD = noDn)
    have b0 : (hc != 0) = true := by simpa using h0
    clear HE HE2 e1 e2 h0 KB KD HI2 HS2 HO2
    have hle : w.heap.size ≤ g := by have := HJ1.at0; omega
    obtain ⟨w2, s1, b1, bw1, k1⟩ := Zf4 (zerX h) HZL.out HJ1.r1 HJ1.bw (by omega)
    have HJ2 := HJ1.put1 k1 (Has.of b1 HS.out)
    obtain ⟨w3, s2, b2, bw2, k2⟩ := Za1 noDn HJ2.r2 HJ2.bw (by omega)
    have b1' := b1.far k2 (by omega)
    have HX := HJ1.hart
    have HII := HI.out
    clear HJ1 HJ2 bw1 k1 k2 b1 hle
    go_wp2_with (first
      | (with_reducible refine za7 (o := ⟨some 15, _, _, _, _, _⟩) rfl 25 (.tmp 4) rfl HX rfl Tryz.underlying25 rfl HI.out ?_)
      | (with_reducible refine zc3 (o := ⟨none, .store _ (.tmp 8) (.tmp 15), _, _, _, _⟩) rfl 25 (.tmp 8) (.tmp 15) rfl rfl rfl s1 ?_)
      | (with_reducible refine zc3 (o := ⟨none, .store _ (.tmp 9) (.tmp 16), _, _, _, _⟩) rfl 33 (.tmp 9) (.tmp 16) rfl rfl rfl s2 ?_))
    refine bodyPost_ret (zd1 rfl rfl rfl b1' b2 Tryz.underlying25 rfl HI.out Tryz.underlying33 rfl (by kernel_rfl)) rfl ?_
    exact ⟨by rw [HEE.out.1, HEE.out.2], bw2⟩
end Go.Proofs.YtoeekibcelaloaaGreatDoor
