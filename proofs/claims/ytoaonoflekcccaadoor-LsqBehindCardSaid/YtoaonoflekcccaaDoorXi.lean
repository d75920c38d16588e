/- Package lsq: Source, where the byte is one of the slot's. -/
import Derived.Test.YtoaonoflekcccaaDoorXh
set_option maxRecDepth 100000
set_option linter.unusedVariables false
namespace Go.Proofs.YtoaonoflekcccaaDoor
open Go.RowKit Go.Shelf

attribute [local go_sem] Oper.semAt_some

set_option maxHeartbeats 8000000 in
theorem source_in {l : List Slt} {A : Option Addr} {w : World} (h : FL l A w) (cap : Nat) (hcap : l.length ≤ cap) (j : Nat) (k : Int) (hj : j < l.length) (hk : 0 ≤ k ∧ k < roomS (sAt l j)) :
    Calls Tryd.prog 7 #[.slice A l.length cap, .int .i64 (j : Int), .int .i64 k] w fun e w' => e = .returned (.int .i64 (srcS l j k)) ∧ BW w w' := by
  have HE : Hid (srcS l j k = srcG l ((sAt l j).addr + k) j) := by show _ = _; unfold srcS; rw [Int.toNat_natCast, if_pos ⟨by omega, by omega, hk.1, hk.2⟩]
  have HPL := Lib.hid (isPlace_c A l.length cap (j : Int))
  rw [decide_eq_true (⟨by omega, by omega⟩ : 0 ≤ (j : Int) ∧ (j : Int) < l.length)] at HPL
  have HKL := Lib.hid hj
  have HLE := Lib.hid (show j ≤ l.length by omega)
  have HJL := Lib.hid (show j ≤ 1000 by have := h.len; omega)
  have HJC := Lib.hid (show j ≤ cap by omega)
  obtain ⟨b, off, rfl, hb, hcs⟩ := h.cells hj
  have HCS := Lib.hid hcs
  have HBL := Lib.hid hb
  have HRM0 := Lib.hid (fun y (hy : BW w y) => room_c (sAt l j) (h.at hj) y (h.tab.below hy))
  have HST0 := Lib.hid (fun m (hm : m < l.length) y (hy : BW w y) => isStore_c (sAt l m) (h.at hm) y (h.tab.below hy))
  have HIX0 := Lib.hid (fun m (hm : m < l.length) y (hy : BW w y) => index_c (sAt l m) (h.at hm) ((sAt l j).addr + k) y (h.tab.below hy))
  have HAD : Hid (-9223372036854775808 ≤ (sAt l j).addr + k ∧ (sAt l j).addr + k ≤ 9223372036854775807) := by
    have h1 := room_most (sAt l j)
    have h2 := room_end (sAt l j) (h.at hj)
    have h3 := (h.at hj).addr
    unfold I64 at h3
    exact ⟨by omega, by omega⟩
  have HALL := Lib.hid (fun m (hm : m < l.length) => h.cells hm)
  have HD1 := Lib.hid (decide_eq_false (show ¬ k < 0 by omega))
  have HD2 := Lib.hid (decide_eq_false (show ¬ roomS (sAt l j) ≤ k by omega))
  unfold sltV at HRM0 HST0 HIX0
  clear h hk hcs hj hcap
  refine (callsIn_wide (n := 9)).1 ?_
  refine callsIn_of_wp_marks Tryd.func7 rfl trivial ?_ rfl
  simp only [Tryd.ntmps7, List.size_toArray, List.length_cons, List.length_nil, Nat.reduceAdd, Nat.reduceSub, Array.replicate_succ, Array.replicate_zero, List.push_toArray, List.append_toArray, List.nil_append, List.cons_append]
  gi_wp2
  obtain ⟨n0, hn0⟩ : ∃ n0, w.heap.size = n0 := ⟨_, rfl⟩
  obtain ⟨b1, hb1⟩ : ∃ b, n0 + 1 = b := ⟨_, rfl⟩
  obtain ⟨b2, hb2⟩ : ∃ b, b1 + 1 = b := ⟨_, rfl⟩
  obtain ⟨b3, hb3⟩ : ∃ b, b2 + 1 = b := ⟨_, rfl⟩
  rw [hn0, hb1, hb2, hb3]
  obtain ⟨w1, hw1⟩ : ∃ w1, ((((w.alloc (Obj.cells #[.slice (some ⟨b, off, none⟩) l.length cap] 22)).alloc (Obj.cells #[.int .i64 (j : Int)] 3)).alloc (Obj.cells #[.int .i64 k] 3)).alloc (Obj.cells #[.int .i64 0] 3)) = w1 := ⟨_, rfl⟩
  rw [hw1]
  obtain ⟨HW1, HB0, HB1, HB2, HB3⟩ := src_boxes w (some ⟨b, off, none⟩) l.length cap (j : Int) k hn0 hb1 hb2 hb3 hw1
  have HRM := Lib.hid (fun y (hy : BW w1 y) => HRM0.out y (BW.on HW1.out hy))
  refine wide_held (BW w1) (by kernel_rfl) (by kernel_rfl) ?_
  have HS : BW w1 (World.drew w1) := Below.drew (Below.refl _ _)
  generalize World.drew w1 = wd at *
  refine hk_val (i := 0) (oi := ⟨some 9, .load _ _, _, _, _, _⟩) (.slice (some ⟨b, off, none⟩) l.length cap) rfl (by kernel_rfl) (by kernel_rfl) (by kernel_rfl) (fun _ _ _ h => h) (by kernel_rfl) (fun y hy => ex_load rfl rfl ((HB0.out _ hy).cell 0) (by kernel_rfl)) HS ?_
  simp only [Act.put, List.setIfInBounds_toArray, List.set_cons_zero, List.set_cons_succ]
  refine hk_val (i := 1) (oi := ⟨some 10, .load _ _, _, _, _, _⟩) (.int .i64 (j : Int)) rfl (by kernel_rfl) (by kernel_rfl) (by kernel_rfl) (fun _ _ _ h => h) (by kernel_rfl) (fun y hy => ex_load rfl rfl ((HB1.out _ hy).cell 0) (by kernel_rfl)) HS ?_
  simp only [Act.put, List.setIfInBounds_toArray, List.set_cons_zero, List.set_cons_succ]
  refine hk_call (i := 2) (oi := ⟨some 11, .call _, _, _, _, _⟩) (by kernel_rfl) rfl (by kernel_rfl) (by first | rfl | kernel_rfl) (HPL.out _) ?_
  rintro e w2 ⟨rfl, rfl⟩
  refine ⟨_, rfl, HS, ?_⟩
  simp only [Act.put, List.setIfInBounds_toArray, List.set_cons_zero, List.set_cons_succ]
  refine hk_val (i := 3) (oi := ⟨some 12, .unOp _ _ _, _, _, _, _⟩) (.bool false) rfl (by kernel_rfl) (by kernel_rfl) (by kernel_rfl) (fun _ _ _ h => h) (by kernel_rfl) (fun _ _ => rfl) HS ?_
  simp only [Act.put, List.setIfInBounds_toArray, List.set_cons_zero, List.set_cons_succ]
  refine hk_val (i := 4) (oi := ⟨some 13, .move _, _, _, _, _⟩) (.bool false) rfl (by kernel_rfl) (by kernel_rfl) (by kernel_rfl) (fun _ _ _ h => h) (by kernel_rfl) (fun _ _ => rfl) HS ?_
  simp only [Act.put, List.setIfInBounds_toArray, List.set_cons_zero, List.set_cons_succ]
  refine hk_val (i := 5) (oi := ⟨some 14, .load _ _, _, _, _, _⟩) (.int .i64 k) rfl (by kernel_rfl) (by kernel_rfl) (by kernel_rfl) (fun _ _ _ h => h) (by kernel_rfl) (fun y hy => ex_load rfl rfl ((HB2.out _ hy).cell 0) (by kernel_rfl)) HS ?_
  simp only [Act.put, List.setIfInBounds_toArray, List.set_cons_zero, List.set_cons_succ]
  refine hk_val (i := 6) (oi := ⟨some 15, .binOp _ _ _ _ _, _, _, _, _⟩) (.bool false) rfl (by kernel_rfl) (by kernel_rfl) (by kernel_rfl) (fun _ _ _ h => h) (by kernel_rfl) (fun _ _ => Hz.ex_ltK rfl rfl rfl (HD1.out)) HS ?_
  simp only [Act.put, List.setIfInBounds_toArray, List.set_cons_zero, List.set_cons_succ]
  refine hk_val (i := 7) (oi := ⟨some 16, .pick _ _ _, _, _, _, _⟩) (.bool false) rfl (by kernel_rfl) (by kernel_rfl) (by kernel_rfl) (fun _ _ _ h => h) (by kernel_rfl) (fun _ _ => rfl) HS ?_
  simp only [Act.put, List.setIfInBounds_toArray, List.set_cons_zero, List.set_cons_succ]
  refine hk_val (i := 8) (oi := ⟨some 17, .move _, _, _, _, _⟩) (.bool false) rfl (by kernel_rfl) (by kernel_rfl) (by kernel_rfl) (fun _ _ _ h => h) (by kernel_rfl) (fun _ _ => rfl) HS ?_
  simp only [Act.put, List.setIfInBounds_toArray, List.set_cons_zero, List.set_cons_succ]
  refine hk_val (i := 9) (oi := ⟨some 18, .load _ _, _, _, _, _⟩) (.int .i64 k) rfl (by kernel_rfl) (by kernel_rfl) (by kernel_rfl) (fun _ _ _ h => h) (by kernel_rfl) (fun y hy => ex_load rfl rfl ((HB2.out _ hy).cell 0) (by kernel_rfl)) HS ?_
  simp only [Act.put, List.setIfInBounds_toArray, List.set_cons_zero, List.set_cons_succ]
  refine hk_val (i := 10) (oi := ⟨some 19, .load _ _, _, _, _, _⟩) (.slice (some ⟨b, off, none⟩) l.length cap) rfl (by kernel_rfl) (by kernel_rfl) (by kernel_rfl) (fun _ _ _ h => h) (by kernel_rfl) (fun y hy => ex_load rfl rfl ((HB0.out _ hy).cell 0) (by kernel_rfl)) HS ?_
  simp only [Act.put, List.setIfInBounds_toArray, List.set_cons_zero, List.set_cons_succ]
  refine hk_val (i := 11) (oi := ⟨some 20, .load _ _, _, _, _, _⟩) (.int .i64 (j : Int)) rfl (by kernel_rfl) (by kernel_rfl) (by kernel_rfl) (fun _ _ _ h => h) (by kernel_rfl) (fun y hy => ex_load rfl rfl ((HB1.out _ hy).cell 0) (by kernel_rfl)) HS ?_
  simp only [Act.put, List.setIfInBounds_toArray, List.set_cons_zero, List.set_cons_succ]
  refine hk_val (i := 12) (oi := ⟨some 21, .indexAddr _ _ _, _, _, _, _⟩) (.pointer (some ⟨b, off + j * 18, none⟩)) rfl (by kernel_rfl) (by kernel_rfl) (by kernel_rfl) (fun _ _ _ h => h) (by kernel_rfl) (fun _ _ => Hz.ex_indexz rfl rfl rfl rfl HKL.out Tryd.underlying22 (by kernel_rfl)) HS ?_
  simp only [Act.put, List.setIfInBounds_toArray, List.set_cons_zero, List.set_cons_succ]
  refine hk_val (i := 13) (oi := ⟨some 22, .load _ _, _, _, _, _⟩) (.agg (sltC (sAt l j))) rfl (by kernel_rfl) (by kernel_rfl) (by kernel_rfl) (fun _ _ _ h => h) (by kernel_rfl) (fun y hy => ex_slt (sAt l j) rfl rfl (HCS.out _ (BW.on HW1.out hy)) Tryd.underlying29 rfl (by kernel_rfl)) HS ?_
  simp only [Act.put, List.setIfInBounds_toArray, List.set_cons_zero, List.set_cons_succ]
  refine hk_call (i := 14) (oi := ⟨some 23, .call _, _, _, _, _⟩) (by kernel_rfl) rfl (by kernel_rfl) (by first | rfl | kernel_rfl) (HRM.out _ HS) ?_
  rintro e w3 ⟨rfl, hb⟩
  have HS3 := HS.on hb
  refine ⟨_, rfl, HS3, ?_⟩
  simp only [Act.put, List.setIfInBounds_toArray, List.set_cons_zero, List.set_cons_succ]
  refine hk_val (i := 15) (oi := ⟨some 24, .binOp _ _ _ _ _, _, _, _, _⟩) (.bool false) rfl (by kernel_rfl) (by kernel_rfl) (by kernel_rfl) (fun _ _ _ h => h) (by kernel_rfl) (fun _ _ => Hz.ex_geK rfl rfl rfl (HD2.out)) HS3 ?_
  simp only [Act.put, List.setIfInBounds_toArray, List.set_cons_zero, List.set_cons_succ]
  refine hk_val (i := 16) (oi := ⟨some 25, .pick _ _ _, _, _, _, _⟩) (.bool false) rfl (by kernel_rfl) (by kernel_rfl) (by kernel_rfl) (fun _ _ _ h => h) (by kernel_rfl) (fun _ _ => rfl) HS3 ?_
  simp only [Act.put, List.setIfInBounds_toArray, List.set_cons_zero, List.set_cons_succ]
  refine wpAnyH_done (by kernel_rfl) ?_ _
  refine qn_in ?_
  have q0 : World.cell? _ ⟨n0, 0, none⟩ = some (.slice (some ⟨b, off, none⟩) l.length cap) := (HB0.out _ HS3).cell 0
  have q1 : World.cell? _ ⟨b1, 0, none⟩ = some (.int .i64 (j : Int)) := (HB1.out _ HS3).cell 0
  have hjc := HJC.out
  have hjl := HLE.out
  have hjI : (0 : Int) ≤ (j : Int) ∧ (j : Int) ≤ (cap : Int) := by omega
  gi_wp2_with (first
    | (refine ⟨trivial, ?_⟩; gi_at_call 23; refine (backWL_in Fence.wide _ trivial rfl _ _ _ _).mono ?_; rintro e w' ⟨rfl, rfl⟩))
  clear q0 q1
  obtain ⟨b4, hb4⟩ : ∃ b4, w3.heap.size = b4 := ⟨_, rfl⟩
  rw [hb4]
  have HBW3 := Lib.hid (BW.on HW1.out HS3)
  have h34 : b3 < b4 := by rw [← hb4]; exact (HB3.out _ HS3).lt
  obtain ⟨W0, hW0⟩ : ∃ W0, w3.alloc (Obj.cells #[Value.slice (some ⟨b, off, none⟩) j cap] 22) = W0 := ⟨_, rfl⟩
  rw [hW0]
  have hsz : W0.heap.size = b4 + 1 := by rw [← hW0]; simp only [World.size_alloc]; omega
  have hb10 : BW w1 W0 := by rw [← hW0]; exact BW.new HS3 _
  have hbw : Below n0 w W0 := by rw [← hn0]; exact BW.on HW1.out hb10
  have k0 := HB0.out _ hb10
  have k1 := HB1.out _ hb10
  have k2 := HB2.out _ hb10
  have k3 := HB3.out _ hb10
  have k4 : Blk #[.slice (some ⟨b, off, none⟩) j cap] 22 b4 W0 := by rw [← hW0, ← hb4]; exact Blk.new _ _ w3
  clear hW0 hb10
  have hbn : b < n0 := by rw [← hn0]; exact HBL.out
  have hA0 : 0 < j → ∃ b' off', (some ⟨b, off, none⟩ : Option Addr) = some ⟨b', off', none⟩ ∧ b' < W0.heap.size ∧ ∀ i, i < j → ∀ m v, (sltC (sAt l i))[m]? = some v → W0.cell? ⟨b', off' + i * 18 + m, none⟩ = some v := fun _ =>
    ⟨b, off, rfl, by omega, fun i hi m v hv => by
      obtain ⟨b', off', e, _, hc⟩ := HALL.out i (by have := HLE.out; omega)
      obtain ⟨rfl, rfl⟩ : b = b' ∧ off = off' := by simpa using e
      exact hc W0 (by unfold BW; rw [hn0]; exact hbw) m v hv⟩
  refine wpIn_rangeFunc_ownH (F := Fence.wide) rfl (by omega) (gf := 30) (lb := #[.pointer (some ⟨b4, 0, none⟩)]) rfl trivial (enters_of Tryd.func30 (by kernel_rfl) rfl)
    (backL_stops Fence.wide 8 trivial rfl (by omega) b4 cap j (some ⟨b, off, none⟩) l (by have := HJL.out; omega) W0 (k4.cell 0) (by omega) hA0) belowK_t (belowK_b (Nat.le_refl _)) (Below.refl _ _) (fun _ => rfl)
    (fun pre W => (∀ i ∈ pre, hitS l ((sAt l j).addr + k) i.1 = false) ∧ Below W0.heap.size W0 W)
    (fun c pre W => c = .ret ∧ ∃ pre' x, pre = pre' ++ [x] ∧ (∀ i ∈ pre', hitS l ((sAt l j).addr + k) i.1 = false) ∧ hitS l ((sAt l j).addr + k) x.1 = true ∧ Blk #[.int .i64 ((x.1 : Nat) : Int)] 3 b3 W ∧ Below n0 w W)
    (OwnFrom.and (ownFrom_pure _ _) (ownFrom_below (Nat.le_refl _) (Nat.le_refl _)))
    (fun c s X Y row hs hg hr => by
      obtain ⟨e1, p', x, e2, e3, e4, e5, e6⟩ := hs
      exact ⟨e1, p', x, e2, e3, e4, e5.own hg hr, e6.grown hg (by have := e6.size; omega) (fun r e => by have := (hr r e).1; omega)⟩)
    ⟨by simp, Below.refl _ _⟩
    (fun x a' W => ∃ Be, W0.heap.size ≤ Be ∧ Blk (sltC (sAt l x.1)) 29 Be W ∧ a' = { tmps := #[.slice (some ⟨b, off, none⟩) l.length cap, .int .i64 (j : Int), .int .i64 k, .pointer (some ⟨n0, 0, none⟩), .pointer (some ⟨b1, 0, none⟩), .pointer (some ⟨b2, 0, none⟩), .pointer (some ⟨b3, 0, none⟩), .int .i64 ((x.1 : Nat) : Int), .pointer (some ⟨Be, 0, none⟩), .slice (some ⟨b, off, none⟩) l.length cap, .int .i64 (j : Int), .bool true, .bool false, .bool false, .int .i64 k, .bool false, .bool false, .bool false, .int .i64 k, .slice (some ⟨b, off, none⟩) l.length cap, .int .i64 (j : Int), .pointer (some ⟨b, off + j * 18, none⟩), .agg (sltC (sAt l j)), .int .i64 (roomS (sAt l j)), .bool false, .bool false, .slice (some ⟨b, off, none⟩) l.length cap, .int .i64 (j : Int), .slice (some ⟨b, off, none⟩) j cap, .func (.func 30) #[] #[.pointer (some ⟨b4, 0, none⟩)], .int .i64 ((x.1 : Nat) : Int), .agg (sltC (sAt l x.1)), undef, undef, undef, undef, undef, undef, undef, undef, undef, undef, undef, undef, undef, undef, undef], defers := [] })
    (fun x a' _ X Y row hs hg hr => by obtain ⟨Be, e1, e2, e3⟩ := hs; exact ⟨Be, e1, e2.own hg hr, e3⟩)
    ?assign ?body ?done ?stop
  case assign =>
    rintro l2 pre x W K ⟨hp, hB1⟩ hK
    have hs1 := hB1.size
    unfold sltC
    gi_wp2
    exact hK _ _ ((KeepsOthers.alloc _ _).from _) ((Below.refl _ W).alloc hs1 _) ⟨hp, hB1.alloc hs1 _⟩ ⟨W.heap.size, hs1, Blk.new _ _ _, rfl⟩
  case body =>
    rintro l2 pre x a' W hl ⟨rr, hrr⟩ ⟨hp, hB1⟩ ⟨Be, hBe, bE, rfl⟩ hlt
    have hs1 := hB1.size
    have hW : Below n0 w W := hbw.trans (hB1.mono (by omega))
    have HLW : Hid (BW w W) := by show BW w W; unfold BW; rw [hn0]; exact hW
    have hxl : x.1 < l.length := by have := x.2; have := HLE.out; omega
    have HST := Lib.hid (fun y (hy : BW W y) => HST0.out x.1 hxl y (BW.on HLW.out hy))
    have HIX := Lib.hid (fun y (hy : BW W y) => HIX0.out x.1 hxl y (BW.on HLW.out hy))
    have HBE := Lib.hid (fun y (hy : BW W y) => bE.on hy)
    have HC0 := Lib.hid (fun y (hy : BW W y) => (k0.within hB1 (by omega)).on hy)
    have HC1 := Lib.hid (fun y (hy : BW W y) => (k1.within hB1 (by omega)).on hy)
    have HC2 := Lib.hid (fun y (hy : BW W y) => (k2.within hB1 (by omega)).on hy)
    have HC3 := Lib.hid (fun y (hy : BW W y) => (k3.within hB1 (by omega)).on hy)
    cases hst : stS (sAt l x.1) with
    | false =>
      have HX : Hid (hitS l ((sAt l j).addr + k) x.1 = false) := by show _ = _; unfold hitS; rw [hst]; rfl
      rw [hst] at HST
      clear hst HIX
      gi_wp2
      refine round_held (BW W) _ (by kernel_rfl) (by kernel_rfl) ?_
      have HS : BW W (World.drew W) := Below.drew (Below.refl _ _)
      generalize World.drew W = wd at *
      refine hk_load (i := 0) (oi := ⟨some 32, .load _ _, _, _, _, _⟩) rfl (by kernel_rfl) (by kernel_rfl) (by kernel_rfl) (fun _ _ _ h => h) (by kernel_rfl) _ _ rfl rfl (fun y hy => HBE.out _ hy) Tryd.underlying29 rfl (by kernel_rfl) HS ?_
      simp only [Act.put, List.setIfInBounds_toArray, List.set_cons_zero, List.set_cons_succ]
      refine hk_call (i := 1) (oi := ⟨some 33, .call _, _, _, _, _⟩) (by kernel_rfl) rfl (by kernel_rfl) (by first | rfl | kernel_rfl) (HST.out _ HS) ?_
      rintro e w7 ⟨rfl, hb⟩
      have HS7 := HS.on hb
      refine ⟨_, rfl, HS7, ?_⟩
      simp only [Act.put, List.setIfInBounds_toArray, List.set_cons_zero, List.set_cons_succ]
      refine hk_val (i := 2) (oi := ⟨some 34, .move _, _, _, _, _⟩) (.bool false) rfl (by kernel_rfl) (by kernel_rfl) (by kernel_rfl) (fun _ _ _ h => h) (by kernel_rfl) (fun _ _ => rfl) HS7 ?_
      simp only [Act.put, List.setIfInBounds_toArray, List.set_cons_zero, List.set_cons_succ]
      refine hk_skip (i := 3) (oi := ⟨some 35, .load _ _, _, _, _, _⟩) rfl (by kernel_rfl) (by kernel_rfl) (by kernel_rfl) (fun _ _ _ h => h) (by kernel_rfl) HS7 ?_
      simp only [Act.put, List.setIfInBounds_toArray, List.set_cons_zero, List.set_cons_succ]
      refine hk_skip (i := 4) (oi := ⟨some 36, .load _ _, _, _, _, _⟩) rfl (by kernel_rfl) (by kernel_rfl) (by kernel_rfl) (fun _ _ _ h => h) (by kernel_rfl) HS7 ?_
      simp only [Act.put, List.setIfInBounds_toArray, List.set_cons_zero, List.set_cons_succ]
      refine hk_skip (i := 5) (oi := ⟨some 37, .load _ _, _, _, _, _⟩) rfl (by kernel_rfl) (by kernel_rfl) (by kernel_rfl) (fun _ _ _ h => h) (by kernel_rfl) HS7 ?_
      simp only [Act.put, List.setIfInBounds_toArray, List.set_cons_zero, List.set_cons_succ]
      refine hk_skip (i := 6) (oi := ⟨some 38, .indexAddr _ _ _, _, _, _, _⟩) rfl (by kernel_rfl) (by kernel_rfl) (by kernel_rfl) (fun _ _ _ h => h) (by kernel_rfl) HS7 ?_
      simp only [Act.put, List.setIfInBounds_toArray, List.set_cons_zero, List.set_cons_succ]
      refine hk_skip (i := 7) (oi := ⟨some 39, .fieldAddr _ _ _, _, _, _, _⟩) rfl (by kernel_rfl) (by kernel_rfl) (by kernel_rfl) (fun _ _ _ h => h) (by kernel_rfl) HS7 ?_
      simp only [Act.put, List.setIfInBounds_toArray, List.set_cons_zero, List.set_cons_succ]
      refine hk_skip (i := 8) (oi := ⟨some 40, .load _ _, _, _, _, _⟩) rfl (by kernel_rfl) (by kernel_rfl) (by kernel_rfl) (fun _ _ _ h => h) (by kernel_rfl) HS7 ?_
      simp only [Act.put, List.setIfInBounds_toArray, List.set_cons_zero, List.set_cons_succ]
      refine hk_skip (i := 9) (oi := ⟨some 41, .load _ _, _, _, _, _⟩) rfl (by kernel_rfl) (by kernel_rfl) (by kernel_rfl) (fun _ _ _ h => h) (by kernel_rfl) HS7 ?_
      simp only [Act.put, List.setIfInBounds_toArray, List.set_cons_zero, List.set_cons_succ]
      refine hk_skip (i := 10) (oi := ⟨some 42, .binOp _ _ _ _ _, _, _, _, _⟩) rfl (by kernel_rfl) (by kernel_rfl) (by kernel_rfl) (fun _ _ _ h => h) (by kernel_rfl) HS7 ?_
      simp only [Act.put, List.setIfInBounds_toArray, List.set_cons_zero, List.set_cons_succ]
      refine hk_skip (i := 11) (oi := ⟨some 43, .call _, _, _, _, _⟩) rfl (by kernel_rfl) (by kernel_rfl) (by kernel_rfl) (fun _ _ _ h => h) (by kernel_rfl) HS7 ?_
      simp only [Act.put, List.setIfInBounds_toArray, List.set_cons_zero, List.set_cons_succ]
      refine hk_skip (i := 12) (oi := ⟨some 44, .binOp _ _ _ _ _, _, _, _, _⟩) rfl (by kernel_rfl) (by kernel_rfl) (by kernel_rfl) (fun _ _ _ h => h) (by kernel_rfl) HS7 ?_
      simp only [Act.put, List.setIfInBounds_toArray, List.set_cons_zero, List.set_cons_succ]
      refine hk_val (i := 13) (oi := ⟨some 45, .pick _ _ _, _, _, _, _⟩) (.bool false) rfl (by kernel_rfl) (by kernel_rfl) (by kernel_rfl) (fun _ _ _ h => h) (by kernel_rfl) (fun _ _ => rfl) HS7 ?_
      simp only [Act.put, List.setIfInBounds_toArray, List.set_cons_zero, List.set_cons_succ]
      refine wpAnyH_done (by kernel_rfl) ?_ _
      refine qn_in ?_
      gi_wp2
      exact ⟨keepsFrom_low HS7 (Nat.le_refl _), HS7.mono hs1, ⟨fun i hi => (List.mem_append.1 hi).elim (hp i) (fun e => by simp at e; subst e; exact HX.out), hB1.trans (HS7.mono hs1)⟩⟩
    | true =>
      rw [hst] at HST
      by_cases hix : idxS (sAt l x.1) ((sAt l j).addr + k) = -1
      · have HX : Hid (hitS l ((sAt l j).addr + k) x.1 = false) := by show _ = _; unfold hitS; rw [hst, decide_eq_false (fun a => a hix)]; rfl
        have HNE : Hid (decide (idxS (sAt l x.1) ((sAt l j).addr + k) ≠ -1) = false) := decide_eq_false (fun a => a hix)
        clear hst hix
        gi_wp2
        refine round_held (BW W) _ (by kernel_rfl) (by kernel_rfl) ?_
        have HS : BW W (World.drew W) := Below.drew (Below.refl _ _)
        generalize World.drew W = wd at *
        refine hk_load (i := 0) (oi := ⟨some 32, .load _ _, _, _, _, _⟩) rfl (by kernel_rfl) (by kernel_rfl) (by kernel_rfl) (fun _ _ _ h => h) (by kernel_rfl) _ _ rfl rfl (fun y hy => HBE.out _ hy) Tryd.underlying29 rfl (by kernel_rfl) HS ?_
        simp only [Act.put, List.setIfInBounds_toArray, List.set_cons_zero, List.set_cons_succ]
        refine hk_call (i := 1) (oi := ⟨some 33, .call _, _, _, _, _⟩) (by kernel_rfl) rfl (by kernel_rfl) (by first | rfl | kernel_rfl) (HST.out _ HS) ?_
        rintro e w7 ⟨rfl, hb⟩
        have HS7 := HS.on hb
        refine ⟨_, rfl, HS7, ?_⟩
        simp only [Act.put, List.setIfInBounds_toArray, List.set_cons_zero, List.set_cons_succ]
        refine hk_val (i := 2) (oi := ⟨some 34, .move _, _, _, _, _⟩) (.bool true) rfl (by kernel_rfl) (by kernel_rfl) (by kernel_rfl) (fun _ _ _ h => h) (by kernel_rfl) (fun _ _ => rfl) HS7 ?_
        simp only [Act.put, List.setIfInBounds_toArray, List.set_cons_zero, List.set_cons_succ]
        refine hk_load (i := 3) (oi := ⟨some 35, .load _ _, _, _, _, _⟩) rfl (by kernel_rfl) (by kernel_rfl) (by kernel_rfl) (fun _ _ _ h => h) (by kernel_rfl) _ _ rfl rfl (fun y hy => HBE.out _ hy) Tryd.underlying29 rfl (by kernel_rfl) HS7 ?_
        simp only [Act.put, List.setIfInBounds_toArray, List.set_cons_zero, List.set_cons_succ]
        refine hk_val (i := 4) (oi := ⟨some 36, .load _ _, _, _, _, _⟩) (.slice (some ⟨b, off, none⟩) l.length cap) rfl (by kernel_rfl) (by kernel_rfl) (by kernel_rfl) (fun _ _ _ h => h) (by kernel_rfl) (fun y hy => ex_load rfl rfl ((HC0.out _ hy).cell 0) (by kernel_rfl)) HS7 ?_
        simp only [Act.put, List.setIfInBounds_toArray, List.set_cons_zero, List.set_cons_succ]
        refine hk_val (i := 5) (oi := ⟨some 37, .load _ _, _, _, _, _⟩) (.int .i64 (j : Int)) rfl (by kernel_rfl) (by kernel_rfl) (by kernel_rfl) (fun _ _ _ h => h) (by kernel_rfl) (fun y hy => ex_load rfl rfl ((HC1.out _ hy).cell 0) (by kernel_rfl)) HS7 ?_
        simp only [Act.put, List.setIfInBounds_toArray, List.set_cons_zero, List.set_cons_succ]
        refine hk_val (i := 6) (oi := ⟨some 38, .indexAddr _ _ _, _, _, _, _⟩) (.pointer (some ⟨b, off + j * 18, none⟩)) rfl (by kernel_rfl) (by kernel_rfl) (by kernel_rfl) (fun _ _ _ h => h) (by kernel_rfl) (fun _ _ => Hz.ex_indexz rfl rfl rfl rfl HKL.out Tryd.underlying22 (by kernel_rfl)) HS7 ?_
        simp only [Act.put, List.setIfInBounds_toArray, List.set_cons_zero, List.set_cons_succ]
        refine hk_val (i := 7) (oi := ⟨some 39, .fieldAddr _ _ _, _, _, _, _⟩) (.pointer (some ⟨b, off + j * 18 + 6, none⟩)) rfl (by kernel_rfl) (by kernel_rfl) (by kernel_rfl) (fun _ _ _ h => h) (by kernel_rfl) (fun _ _ => Hz.ex_fieldz (z := 6) rfl rfl (fun _ => by kernel_rfl)) HS7 ?_
        simp only [Act.put, List.setIfInBounds_toArray, List.set_cons_zero, List.set_cons_succ]
        refine hk_val (i := 8) (oi := ⟨some 40, .load _ _, _, _, _, _⟩) (.int .i64 (sAt l j).addr) rfl (by kernel_rfl) (by kernel_rfl) (by kernel_rfl) (fun _ _ _ h => h) (by kernel_rfl) (fun y hy => ex_load rfl rfl (HCS.out _ (BW.on HLW.out hy) 6 _ rfl) (by kernel_rfl)) HS7 ?_
        simp only [Act.put, List.setIfInBounds_toArray, List.set_cons_zero, List.set_cons_succ]
        refine hk_val (i := 9) (oi := ⟨some 41, .load _ _, _, _, _, _⟩) (.int .i64 k) rfl (by kernel_rfl) (by kernel_rfl) (by kernel_rfl) (fun _ _ _ h => h) (by kernel_rfl) (fun y hy => ex_load rfl rfl ((HC2.out _ hy).cell 0) (by kernel_rfl)) HS7 ?_
        simp only [Act.put, List.setIfInBounds_toArray, List.set_cons_zero, List.set_cons_succ]
        refine hk_val (i := 10) (oi := ⟨some 42, .binOp _ _ _ _ _, _, _, _, _⟩) (.int .i64 ((sAt l j).addr + k)) rfl (by kernel_rfl) (by kernel_rfl) (by kernel_rfl) (fun _ _ _ h => h) (by kernel_rfl) (fun _ _ => Hz.ex_addI rfl rfl rfl (HAD.out)) HS7 ?_
        simp only [Act.put, List.setIfInBounds_toArray, List.set_cons_zero, List.set_cons_succ]
        refine hk_call (i := 11) (oi := ⟨some 43, .call _, _, _, _, _⟩) (by kernel_rfl) rfl (by kernel_rfl) (by first | rfl | kernel_rfl) (HIX.out _ HS7) ?_
        rintro e w8 ⟨rfl, hb⟩
        have HS8 := HS7.on hb
        refine ⟨_, rfl, HS8, ?_⟩
        simp only [Act.put, List.setIfInBounds_toArray, List.set_cons_zero, List.set_cons_succ]
        refine hk_val (i := 12) (oi := ⟨some 44, .binOp _ _ _ _ _, _, _, _, _⟩) (.bool false) rfl (by kernel_rfl) (by kernel_rfl) (by kernel_rfl) (fun _ _ _ h => h) (by kernel_rfl) (fun _ _ => Hz.ex_neK rfl rfl rfl (HNE.out)) HS8 ?_
        simp only [Act.put, List.setIfInBounds_toArray, List.set_cons_zero, List.set_cons_succ]
        refine hk_val (i := 13) (oi := ⟨some 45, .pick _ _ _, _, _, _, _⟩) (.bool false) rfl (by kernel_rfl) (by kernel_rfl) (by kernel_rfl) (fun _ _ _ h => h) (by kernel_rfl) (fun _ _ => rfl) HS8 ?_
        simp only [Act.put, List.setIfInBounds_toArray, List.set_cons_zero, List.set_cons_succ]
        refine wpAnyH_done (by kernel_rfl) ?_ _
        refine qn_in ?_
        gi_wp2
        exact ⟨keepsFrom_low HS8 (Nat.le_refl _), HS8.mono hs1, ⟨fun i hi => (List.mem_append.1 hi).elim (hp i) (fun e => by simp at e; subst e; exact HX.out), hB1.trans (HS8.mono hs1)⟩⟩
      · have HX : Hid (hitS l ((sAt l j).addr + k) x.1 = true) := by show _ = _; unfold hitS; rw [hst, decide_eq_true hix]; rfl
        have HNE : Hid (decide (idxS (sAt l x.1) ((sAt l j).addr + k) ≠ -1) = true) := decide_eq_true hix
        clear hst hix
        gi_wp2
        refine round_held (BW W) _ (by kernel_rfl) (by kernel_rfl) ?_
        have HS : BW W (World.drew W) := Below.drew (Below.refl _ _)
        generalize World.drew W = wd at *
        refine hk_load (i := 0) (oi := ⟨some 32, .load _ _, _, _, _, _⟩) rfl (by kernel_rfl) (by kernel_rfl) (by kernel_rfl) (fun _ _ _ h => h) (by kernel_rfl) _ _ rfl rfl (fun y hy => HBE.out _ hy) Tryd.underlying29 rfl (by kernel_rfl) HS ?_
        simp only [Act.put, List.setIfInBounds_toArray, List.set_cons_zero, List.set_cons_succ]
        refine hk_call (i := 1) (oi := ⟨some 33, .call _, _, _, _, _⟩) (by kernel_rfl) rfl (by kernel_rfl) (by first | rfl | kernel_rfl) (HST.out _ HS) ?_
        rintro e w7 ⟨rfl, hb⟩
        have HS7 := HS.on hb
        refine ⟨_, rfl, HS7, ?_⟩
        simp only [Act.put, List.setIfInBounds_toArray, List.set_cons_zero, List.set_cons_succ]
        refine hk_val (i := 2) (oi := ⟨some 34, .move _, _, _, _, _⟩) (.bool true) rfl (by kernel_rfl) (by kernel_rfl) (by kernel_rfl) (fun _ _ _ h => h) (by kernel_rfl) (fun _ _ => rfl) HS7 ?_
        simp only [Act.put, List.setIfInBounds_toArray, List.set_cons_zero, List.set_cons_succ]
        refine hk_load (i := 3) (oi := ⟨some 35, .load _ _, _, _, _, _⟩) rfl (by kernel_rfl) (by kernel_rfl) (by kernel_rfl) (fun _ _ _ h => h) (by kernel_rfl) _ _ rfl rfl (fun y hy => HBE.out _ hy) Tryd.underlying29 rfl (by kernel_rfl) HS7 ?_
        simp only [Act.put, List.setIfInBounds_toArray, List.set_cons_zero, List.set_cons_succ]
        refine hk_val (i := 4) (oi := ⟨some 36, .load _ _, _, _, _, _⟩) (.slice (some ⟨b, off, none⟩) l.length cap) rfl (by kernel_rfl) (by kernel_rfl) (by kernel_rfl) (fun _ _ _ h => h) (by kernel_rfl) (fun y hy => ex_load rfl rfl ((HC0.out _ hy).cell 0) (by kernel_rfl)) HS7 ?_
        simp only [Act.put, List.setIfInBounds_toArray, List.set_cons_zero, List.set_cons_succ]
        refine hk_val (i := 5) (oi := ⟨some 37, .load _ _, _, _, _, _⟩) (.int .i64 (j : Int)) rfl (by kernel_rfl) (by kernel_rfl) (by kernel_rfl) (fun _ _ _ h => h) (by kernel_rfl) (fun y hy => ex_load rfl rfl ((HC1.out _ hy).cell 0) (by kernel_rfl)) HS7 ?_
        simp only [Act.put, List.setIfInBounds_toArray, List.set_cons_zero, List.set_cons_succ]
        refine hk_val (i := 6) (oi := ⟨some 38, .indexAddr _ _ _, _, _, _, _⟩) (.pointer (some ⟨b, off + j * 18, none⟩)) rfl (by kernel_rfl) (by kernel_rfl) (by kernel_rfl) (fun _ _ _ h => h) (by kernel_rfl) (fun _ _ => Hz.ex_indexz rfl rfl rfl rfl HKL.out Tryd.underlying22 (by kernel_rfl)) HS7 ?_
        simp only [Act.put, List.setIfInBounds_toArray, List.set_cons_zero, List.set_cons_succ]
        refine hk_val (i := 7) (oi := ⟨some 39, .fieldAddr _ _ _, _, _, _, _⟩) (.pointer (some ⟨b, off + j * 18 + 6, none⟩)) rfl (by kernel_rfl) (by kernel_rfl) (by kernel_rfl) (fun _ _ _ h => h) (by kernel_rfl) (fun _ _ => Hz.ex_fieldz (z := 6) rfl rfl (fun _ => by kernel_rfl)) HS7 ?_
        simp only [Act.put, List.setIfInBounds_toArray, List.set_cons_zero, List.set_cons_succ]
        refine hk_val (i := 8) (oi := ⟨some 40, .load _ _, _, _, _, _⟩) (.int .i64 (sAt l j).addr) rfl (by kernel_rfl) (by kernel_rfl) (by kernel_rfl) (fun _ _ _ h => h) (by kernel_rfl) (fun y hy => ex_load rfl rfl (HCS.out _ (BW.on HLW.out hy) 6 _ rfl) (by kernel_rfl)) HS7 ?_
        simp only [Act.put, List.setIfInBounds_toArray, List.set_cons_zero, List.set_cons_succ]
        refine hk_val (i := 9) (oi := ⟨some 41, .load _ _, _, _, _, _⟩) (.int .i64 k) rfl (by kernel_rfl) (by kernel_rfl) (by kernel_rfl) (fun _ _ _ h => h) (by kernel_rfl) (fun y hy => ex_load rfl rfl ((HC2.out _ hy).cell 0) (by kernel_rfl)) HS7 ?_
        simp only [Act.put, List.setIfInBounds_toArray, List.set_cons_zero, List.set_cons_succ]
        refine hk_val (i := 10) (oi := ⟨some 42, .binOp _ _ _ _ _, _, _, _, _⟩) (.int .i64 ((sAt l j).addr + k)) rfl (by kernel_rfl) (by kernel_rfl) (by kernel_rfl) (fun _ _ _ h => h) (by kernel_rfl) (fun _ _ => Hz.ex_addI rfl rfl rfl (HAD.out)) HS7 ?_
        simp only [Act.put, List.setIfInBounds_toArray, List.set_cons_zero, List.set_cons_succ]
        refine hk_call (i := 11) (oi := ⟨some 43, .call _, _, _, _, _⟩) (by kernel_rfl) rfl (by kernel_rfl) (by first | rfl | kernel_rfl) (HIX.out _ HS7) ?_
        rintro e w8 ⟨rfl, hb⟩
        have HS8 := HS7.on hb
        refine ⟨_, rfl, HS8, ?_⟩
        simp only [Act.put, List.setIfInBounds_toArray, List.set_cons_zero, List.set_cons_succ]
        refine hk_val (i := 12) (oi := ⟨some 44, .binOp _ _ _ _ _, _, _, _, _⟩) (.bool true) rfl (by kernel_rfl) (by kernel_rfl) (by kernel_rfl) (fun _ _ _ h => h) (by kernel_rfl) (fun _ _ => Hz.ex_neK rfl rfl rfl (HNE.out)) HS8 ?_
        simp only [Act.put, List.setIfInBounds_toArray, List.set_cons_zero, List.set_cons_succ]
        refine hk_val (i := 13) (oi := ⟨some 45, .pick _ _ _, _, _, _, _⟩) (.bool true) rfl (by kernel_rfl) (by kernel_rfl) (by kernel_rfl) (fun _ _ _ h => h) (by kernel_rfl) (fun _ _ => rfl) HS8 ?_
        simp only [Act.put, List.setIfInBounds_toArray, List.set_cons_zero, List.set_cons_succ]
        refine wpAnyH_done (by kernel_rfl) ?_ _
        refine qn_in ?_
        have kw := (HC3.out _ HS8).set 0 (.int .i64 ((x.1 : Nat) : Int))
        have c3 : World.cell? _ ⟨b3, 0, none⟩ = some (.int .i64 0) := (HC3.out _ HS8).cell 0
        have f3 := (HC3.out _ HS8).free 0
        have hlow : Below n0 w _ := (hW.trans (HS8.mono (by omega))).setCell (p := ⟨b3, 0, none⟩) (by show n0 ≤ b3; omega) (.int .i64 ((x.1 : Nat) : Int))
        gi_wp2
        exact ⟨(keepsFrom_low HS8 (Nat.le_refl _)).trans ((KeepsOthers.setCell _ _ _).from _), rfl, pre, x, rfl, hp, HX.out, kw, hlow⟩
  case done =>
    rintro D ys W hD rfl ⟨hp, hB1⟩ hK
    have hW : Below n0 w W := hbw.trans (hB1.mono (by omega))
    have kr := k3.within hB1 (by omega)
    have c3 : W.cell? ⟨b3, 0, none⟩ = some (.int .i64 0) := kr.cell 0
    have f3 := kr.free 0
    have HR : Hid (srcS l j k = -1) := HE.out.trans (src_none j (fun i hi => hp ⟨i, hi⟩ (revF_all _)))
    gi_wp2
    have hK' : (W.setCell ⟨b3, 0, none⟩ (.int .i64 (-1))).heap[D]? = _ := (KeepsOthers.setCell W ⟨b3, 0, none⟩ (.int .i64 (-1))).same D _ hK rfl
    refine ⟨by simp, .inl ⟨_, _, rfl, run_takeDeferred hK', ?_⟩⟩
    refine ⟨.int .i64 (-1), results_cell1 rfl rfl (run_loadVar_int Tryd.underlying3 (((kr.set 0 (.int .i64 (-1))).put hK' rfl).cell 0)), by rw [HR.out], ?_⟩
    exact (show Below w.heap.size w _ from hn0.symm ▸ (hW.setCell (p := ⟨b3, 0, none⟩) (by show n0 ≤ b3; omega) _)).trans (belowK_b (w := w) (Nat.le_refl _) _ D _ _ (by omega) hK' rfl rfl)
  case stop =>
    rintro D c pre W hD hpre ⟨rfl, pre', x, rfl, hp, hx, kw, hlow⟩ hK
    have HR : Hid (srcS l j k = ((x.1 : Nat) : Int)) := HE.out.trans (src_hit j x.2 hx (fun i h1 h2 => hp ⟨i, h2⟩ (revF_pre hpre h1)))
    gi_wp2
    refine ⟨by simp, .inl ⟨_, _, rfl, run_takeDeferred hK, ?_⟩⟩
    refine ⟨.int .i64 ((x.1 : Nat) : Int), results_cell1 rfl rfl (run_loadVar_int Tryd.underlying3 ((kw.put hK rfl).cell 0)), by rw [HR.out], ?_⟩
    exact (show Below w.heap.size w _ from hn0.symm ▸ hlow).trans (belowK_b (w := w) (Nat.le_refl _) _ D _ _ (by omega) hK rfl rfl)
theorem source_c {l : List Slt} {A : Option Addr} {w : World} (h : FL l A w) (cap : Nat) (hcap : l.length ≤ cap) (i k : Int) :
    Calls Tryd.prog 7 #[.slice A l.length cap, .int .i64 i, .int .i64 k] w fun e w' => e = .returned (.int .i64 (srcS l i k)) ∧ BW w w' := by
  by_cases hp : 0 ≤ i ∧ i < l.length
  · obtain ⟨j, rfl⟩ : ∃ j : Nat, i = (j : Int) := ⟨i.toNat, by omega⟩
    by_cases hk : 0 ≤ k ∧ k < roomS (sAt l j)
    · exact source_in h cap hcap j k (by omega) hk
    · exact source_out h cap j k (by omega) hk
  · exact source_no h cap i k hp
end Go.Proofs.YtoaonoflekcccaaDoor
