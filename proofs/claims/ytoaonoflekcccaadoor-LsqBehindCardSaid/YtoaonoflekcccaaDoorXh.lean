/- Package lsq: Source. -/
import Derived.Test.YtoaonoflekcccaaDoorXg
import Derived.Test.YtoaonoflekcccaaDoorXf
set_option maxRecDepth 100000
set_option linter.unusedVariables false
namespace Go.Proofs.YtoaonoflekcccaaDoor
open Go.RowKit Go.Shelf

attribute [local go_sem] Oper.semAt_some

def hitS (l : List Slt) (q : Int) (i : Nat) : Bool := stS (sAt l i) && decide (idxS (sAt l i) q ≠ -1)
theorem src_hit {l : List Slt} {q : Int} {j : Nat} : ∀ n, j < n → hitS l q j = true → (∀ i, j < i → i < n → hitS l q i = false) → srcG l q n = j
  | 0, h, _, _ => by omega
  | n + 1, h, hh, hn => by
    show (if _ then _ else _) = _
    by_cases e : j = n
    · subst e
      unfold hitS at hh
      simp only [Bool.and_eq_true, decide_eq_true_eq] at hh
      rw [if_pos hh]
    · have := hn n (by omega) (by omega)
      rw [if_neg (fun a => by unfold hitS at this; rw [a.1, decide_eq_true a.2] at this; cases this)]
      exact src_hit n (by omega) hh (fun i h1 h2 => hn i h1 (by omega))
theorem src_none {l : List Slt} {q : Int} : ∀ n, (∀ i, i < n → hitS l q i = false) → srcG l q n = -1
  | 0, _ => rfl
  | n + 1, hn => by
    show (if _ then _ else _) = _
    have := hn n (by omega)
    rw [if_neg (fun a => by unfold hitS at this; rw [a.1, decide_eq_true a.2] at this; cases this)]
    exact src_none n (fun i h => hn i (by omega))
theorem src_boxes (w : World) (A : Option Addr) (L cap : Nat) (i k : Int) {n0 b1 b2 b3 : Nat} {w1 : World} (hn0 : w.heap.size = n0) (hb1 : n0 + 1 = b1) (hb2 : b1 + 1 = b2) (hb3 : b2 + 1 = b3)
    (hw1 : ((((w.alloc (Obj.cells #[.slice A L cap] 22)).alloc (Obj.cells #[.int .i64 i] 3)).alloc (Obj.cells #[.int .i64 k] 3)).alloc (Obj.cells #[.int .i64 0] 3)) = w1) :
    Hid (BW w w1) ∧ Hid (∀ y, BW w1 y → Blk #[.slice A L cap] 22 n0 y) ∧ Hid (∀ y, BW w1 y → Blk #[.int .i64 i] 3 b1 y) ∧ Hid (∀ y, BW w1 y → Blk #[.int .i64 k] 3 b2 y) ∧ Hid (∀ y, BW w1 y → Blk #[.int .i64 0] 3 b3 y) := by
  have hbw : BW w w1 := by rw [← hw1]; exact BW.new (BW.new (BW.new (BW.new (Below.refl _ _) _) _) _) _
  have k0 : Blk #[.slice A L cap] 22 n0 w1 := by rw [← hw1, ← hn0]; exact (((Blk.new _ _ w).alloc _).alloc _).alloc _
  have k1 : Blk #[.int .i64 i] 3 b1 w1 := by
    rw [← hw1]
    have := ((Blk.new #[.int .i64 i] 3 (w.alloc (Obj.cells #[.slice A L cap] 22))).alloc (Obj.cells #[.int .i64 k] 3)).alloc (Obj.cells #[.int .i64 0] 3)
    simp only [World.size_alloc, hn0, hb1] at this
    exact this
  have k2 : Blk #[.int .i64 k] 3 b2 w1 := by
    rw [← hw1]
    have := (Blk.new #[.int .i64 k] 3 ((w.alloc (Obj.cells #[.slice A L cap] 22)).alloc (Obj.cells #[.int .i64 i] 3))).alloc (Obj.cells #[.int .i64 0] 3)
    simp only [World.size_alloc, hn0, hb1, hb2] at this
    exact this
  have k3 : Blk #[.int .i64 0] 3 b3 w1 := by
    rw [← hw1]
    have := Blk.new #[.int .i64 0] 3 (((w.alloc (Obj.cells #[.slice A L cap] 22)).alloc (Obj.cells #[.int .i64 i] 3)).alloc (Obj.cells #[.int .i64 k] 3))
    simp only [World.size_alloc, hn0, hb1, hb2, hb3] at this
    exact this
  exact ⟨hbw, fun y h => k0.on h, fun y h => k1.on h, fun y h => k2.on h, fun y h => k3.on h⟩
set_option maxHeartbeats 4000000 in
theorem source_no {l : List Slt} {A : Option Addr} {w : World} (h : FL l A w) (cap : Nat) (i k : Int) (hp : ¬ (0 ≤ i ∧ i < l.length)) :
    Calls Tryd.prog 7 #[.slice A l.length cap, .int .i64 i, .int .i64 k] w fun e w' => e = .returned (.int .i64 (srcS l i k)) ∧ BW w w' := by
  have HE : Hid (srcS l i k = -1) := by show _ = _; unfold srcS; rw [if_neg (fun a => hp ⟨a.1, a.2.1⟩)]
  have HPL := Lib.hid (isPlace_c A l.length cap i)
  rw [decide_eq_false hp] at HPL
  clear h hp
  refine (callsIn_wide (n := 9)).1 ?_
  refine callsIn_of_wp_marks Tryd.func7 rfl trivial ?_ rfl
  simp only [Tryd.ntmps7, List.size_toArray, List.length_cons, List.length_nil, Nat.reduceAdd, Nat.reduceSub, Array.replicate_succ, Array.replicate_zero, List.push_toArray, List.append_toArray, List.nil_append, List.cons_append]
  gi_wp2
  obtain ⟨n0, hn0⟩ : ∃ n0, w.heap.size = n0 := ⟨_, rfl⟩
  obtain ⟨b1, hb1⟩ : ∃ b, n0 + 1 = b := ⟨_, rfl⟩
  obtain ⟨b2, hb2⟩ : ∃ b, b1 + 1 = b := ⟨_, rfl⟩
  obtain ⟨b3, hb3⟩ : ∃ b, b2 + 1 = b := ⟨_, rfl⟩
  rw [hn0, hb1, hb2, hb3]
  obtain ⟨w1, hw1⟩ : ∃ w1, ((((w.alloc (Obj.cells #[.slice A l.length cap] 22)).alloc (Obj.cells #[.int .i64 i] 3)).alloc (Obj.cells #[.int .i64 k] 3)).alloc (Obj.cells #[.int .i64 0] 3)) = w1 := ⟨_, rfl⟩
  rw [hw1]
  obtain ⟨HW1, HB0, HB1, HB2, HB3⟩ := src_boxes w A l.length cap i k hn0 hb1 hb2 hb3 hw1
  refine wide_held (BW w1) (by kernel_rfl) (by kernel_rfl) ?_
  have HS : BW w1 (World.drew w1) := Below.drew (Below.refl _ _)
  generalize World.drew w1 = wd at *
  refine hk_val (i := 0) (oi := ⟨some 9, .load _ _, _, _, _, _⟩) (.slice A l.length cap) rfl (by kernel_rfl) (by kernel_rfl) (by kernel_rfl) (fun _ _ _ h => h) (by kernel_rfl) (fun y hy => ex_load rfl rfl ((HB0.out _ hy).cell 0) (by kernel_rfl)) HS ?_
  simp only [Act.put, List.setIfInBounds_toArray, List.set_cons_zero, List.set_cons_succ]
  refine hk_val (i := 1) (oi := ⟨some 10, .load _ _, _, _, _, _⟩) (.int .i64 i) rfl (by kernel_rfl) (by kernel_rfl) (by kernel_rfl) (fun _ _ _ h => h) (by kernel_rfl) (fun y hy => ex_load rfl rfl ((HB1.out _ hy).cell 0) (by kernel_rfl)) HS ?_
  simp only [Act.put, List.setIfInBounds_toArray, List.set_cons_zero, List.set_cons_succ]
  refine hk_call (i := 2) (oi := ⟨some 11, .call _, _, _, _, _⟩) (by kernel_rfl) rfl (by kernel_rfl) (by first | rfl | kernel_rfl) (HPL.out _) ?_
  rintro e w2 ⟨rfl, rfl⟩
  refine ⟨_, rfl, HS, ?_⟩
  simp only [Act.put, List.setIfInBounds_toArray, List.set_cons_zero, List.set_cons_succ]
  refine hk_val (i := 3) (oi := ⟨some 12, .unOp _ _ _, _, _, _, _⟩) (.bool true) rfl (by kernel_rfl) (by kernel_rfl) (by kernel_rfl) (fun _ _ _ h => h) (by kernel_rfl) (fun _ _ => rfl) HS ?_
  simp only [Act.put, List.setIfInBounds_toArray, List.set_cons_zero, List.set_cons_succ]
  refine hk_val (i := 4) (oi := ⟨some 13, .move _, _, _, _, _⟩) (.bool true) rfl (by kernel_rfl) (by kernel_rfl) (by kernel_rfl) (fun _ _ _ h => h) (by kernel_rfl) (fun _ _ => rfl) HS ?_
  simp only [Act.put, List.setIfInBounds_toArray, List.set_cons_zero, List.set_cons_succ]
  refine hk_skip (i := 5) (oi := ⟨some 14, .load _ _, _, _, _, _⟩) rfl (by kernel_rfl) (by kernel_rfl) (by kernel_rfl) (fun _ _ _ h => h) (by kernel_rfl) HS ?_
  simp only [Act.put, List.setIfInBounds_toArray, List.set_cons_zero, List.set_cons_succ]
  refine hk_skip (i := 6) (oi := ⟨some 15, .binOp _ _ _ _ _, _, _, _, _⟩) rfl (by kernel_rfl) (by kernel_rfl) (by kernel_rfl) (fun _ _ _ h => h) (by kernel_rfl) HS ?_
  simp only [Act.put, List.setIfInBounds_toArray, List.set_cons_zero, List.set_cons_succ]
  refine hk_val (i := 7) (oi := ⟨some 16, .pick _ _ _, _, _, _, _⟩) (.bool true) rfl (by kernel_rfl) (by kernel_rfl) (by kernel_rfl) (fun _ _ _ h => h) (by kernel_rfl) (fun _ _ => rfl) HS ?_
  simp only [Act.put, List.setIfInBounds_toArray, List.set_cons_zero, List.set_cons_succ]
  refine hk_val (i := 8) (oi := ⟨some 17, .move _, _, _, _, _⟩) (.bool true) rfl (by kernel_rfl) (by kernel_rfl) (by kernel_rfl) (fun _ _ _ h => h) (by kernel_rfl) (fun _ _ => rfl) HS ?_
  simp only [Act.put, List.setIfInBounds_toArray, List.set_cons_zero, List.set_cons_succ]
  refine hk_skip (i := 9) (oi := ⟨some 18, .load _ _, _, _, _, _⟩) rfl (by kernel_rfl) (by kernel_rfl) (by kernel_rfl) (fun _ _ _ h => h) (by kernel_rfl) HS ?_
  simp only [Act.put, List.setIfInBounds_toArray, List.set_cons_zero, List.set_cons_succ]
  refine hk_skip (i := 10) (oi := ⟨some 19, .load _ _, _, _, _, _⟩) rfl (by kernel_rfl) (by kernel_rfl) (by kernel_rfl) (fun _ _ _ h => h) (by kernel_rfl) HS ?_
  simp only [Act.put, List.setIfInBounds_toArray, List.set_cons_zero, List.set_cons_succ]
  refine hk_skip (i := 11) (oi := ⟨some 20, .load _ _, _, _, _, _⟩) rfl (by kernel_rfl) (by kernel_rfl) (by kernel_rfl) (fun _ _ _ h => h) (by kernel_rfl) HS ?_
  simp only [Act.put, List.setIfInBounds_toArray, List.set_cons_zero, List.set_cons_succ]
  refine hk_skip (i := 12) (oi := ⟨some 21, .indexAddr _ _ _, _, _, _, _⟩) rfl (by kernel_rfl) (by kernel_rfl) (by kernel_rfl) (fun _ _ _ h => h) (by kernel_rfl) HS ?_
  simp only [Act.put, List.setIfInBounds_toArray, List.set_cons_zero, List.set_cons_succ]
  refine hk_skip (i := 13) (oi := ⟨some 22, .load _ _, _, _, _, _⟩) rfl (by kernel_rfl) (by kernel_rfl) (by kernel_rfl) (fun _ _ _ h => h) (by kernel_rfl) HS ?_
  simp only [Act.put, List.setIfInBounds_toArray, List.set_cons_zero, List.set_cons_succ]
  refine hk_skip (i := 14) (oi := ⟨some 23, .call _, _, _, _, _⟩) rfl (by kernel_rfl) (by kernel_rfl) (by kernel_rfl) (fun _ _ _ h => h) (by kernel_rfl) HS ?_
  simp only [Act.put, List.setIfInBounds_toArray, List.set_cons_zero, List.set_cons_succ]
  refine hk_skip (i := 15) (oi := ⟨some 24, .binOp _ _ _ _ _, _, _, _, _⟩) rfl (by kernel_rfl) (by kernel_rfl) (by kernel_rfl) (fun _ _ _ h => h) (by kernel_rfl) HS ?_
  simp only [Act.put, List.setIfInBounds_toArray, List.set_cons_zero, List.set_cons_succ]
  refine hk_val (i := 16) (oi := ⟨some 25, .pick _ _ _, _, _, _, _⟩) (.bool true) rfl (by kernel_rfl) (by kernel_rfl) (by kernel_rfl) (fun _ _ _ h => h) (by kernel_rfl) (fun _ _ => rfl) HS ?_
  simp only [Act.put, List.setIfInBounds_toArray, List.set_cons_zero, List.set_cons_succ]
  refine wpAnyH_done (by kernel_rfl) ?_ _
  refine qn_in ?_
  have f3 := (HB3.out _ HS).free 0
  have c3 : World.cell? _ ⟨b3, 0, none⟩ = some (.int .i64 0) := (HB3.out _ HS).cell 0
  gi_wp2
  have q3 := (HB3.out _ HS).set 0 (.int .i64 (-1))
  exact ⟨.int .i64 (-1), results_cell1 rfl rfl (run_loadVar_int Tryd.underlying3 (q3.cell 0)), by rw [HE.out], (BW.on HW1.out HS).setCell (p := ⟨b3, 0, none⟩) (by show w.heap.size ≤ b3; omega) _⟩
set_option maxHeartbeats 4000000 in
theorem source_out {l : List Slt} {A : Option Addr} {w : World} (h : FL l A w) (cap : Nat) (j : Nat) (k : Int) (hj : j < l.length) (hk : ¬ (0 ≤ k ∧ k < roomS (sAt l j))) :
    Calls Tryd.prog 7 #[.slice A l.length cap, .int .i64 (j : Int), .int .i64 k] w fun e w' => e = .returned (.int .i64 (srcS l j k)) ∧ BW w w' := by
  have HE : Hid (srcS l j k = -1) := by show _ = _; unfold srcS; rw [Int.toNat_natCast, if_neg (fun a => hk ⟨a.2.2.1, a.2.2.2⟩)]
  have HPL := Lib.hid (isPlace_c A l.length cap (j : Int))
  rw [decide_eq_true (⟨by omega, by omega⟩ : 0 ≤ (j : Int) ∧ (j : Int) < l.length)] at HPL
  have HKL := Lib.hid hj
  obtain ⟨b, off, rfl, hb, hcs⟩ := h.cells hj
  have HCS := Lib.hid hcs
  have HRM0 := Lib.hid (fun y (hy : BW w y) => room_c (sAt l j) (h.at hj) y (h.tab.below hy))
  by_cases h0 : k < 0
  · have HD1 := Lib.hid (decide_eq_true h0)
    clear h hk hcs hj h0
    refine (callsIn_wide (n := 9)).1 ?_
    refine callsIn_of_wp_marks Tryd.func7 rfl trivial ?_ rfl
    simp only [Tryd.ntmps7, List.size_toArray, List.length_cons, List.length_nil, Nat.reduceAdd, Nat.reduceSub, Array.replicate_succ, Array.replicate_zero, List.push_toArray, List.append_toArray, List.nil_append, List.cons_append]
    gi_wp2
    obtain ⟨n0, hn0⟩ : ∃ n0, w.heap.size = n0 := ⟨_, rfl⟩
    obtain ⟨b1, hb1⟩ : ∃ b, n0 + 1 = b := ⟨_, rfl⟩
    obtain ⟨b2, hb2⟩ : ∃ b, b1 + 1 = b := ⟨_, rfl⟩
    obtain ⟨b3, hb3⟩ : ∃ b, b2 + 1 = b := ⟨_, rfl⟩
    rw [hn0, hb1, hb2, hb3]
    obtain ⟨w1, hw1⟩ : ∃ w1, ((((w.alloc (Obj.cells #[.slice (some ⟨b, off, none⟩) l.length cap] 22)).alloc (Obj.cells #[.int .i64 (j : Int)] 3)).alloc (Obj.cells #[.int .i64 k] 3)).alloc (Obj.cells #[.int .i64 0] 3)) = w1 := ⟨_, rfl⟩
    rw [hw1]
    obtain ⟨HW1, HB0, HB1, HB2, HB3⟩ := src_boxes w (some ⟨b, off, none⟩) l.length cap (j : Int) k hn0 hb1 hb2 hb3 hw1
    have HRM := Lib.hid (fun y (hy : BW w1 y) => HRM0.out y (BW.on HW1.out hy))
    refine wide_held (BW w1) (by kernel_rfl) (by kernel_rfl) ?_
    have HS : BW w1 (World.drew w1) := Below.drew (Below.refl _ _)
    generalize World.drew w1 = wd at *
    refine hk_val (i := 0) (oi := ⟨some 9, .load _ _, _, _, _, _⟩) (.slice (some ⟨b, off, none⟩) l.length cap) rfl (by kernel_rfl) (by kernel_rfl) (by kernel_rfl) (fun _ _ _ h => h) (by kernel_rfl) (fun y hy => ex_load rfl rfl ((HB0.out _ hy).cell 0) (by kernel_rfl)) HS ?_
    simp only [Act.put, List.setIfInBounds_toArray, List.set_cons_zero, List.set_cons_succ]
    refine hk_val (i := 1) (oi := ⟨some 10, .load _ _, _, _, _, _⟩) (.int .i64 (j : Int)) rfl (by kernel_rfl) (by kernel_rfl) (by kernel_rfl) (fun _ _ _ h => h) (by kernel_rfl) (fun y hy => ex_load rfl rfl ((HB1.out _ hy).cell 0) (by kernel_rfl)) HS ?_
    simp only [Act.put, List.setIfInBounds_toArray, List.set_cons_zero, List.set_cons_succ]
    refine hk_call (i := 2) (oi := ⟨some 11, .call _, _, _, _, _⟩) (by kernel_rfl) rfl (by kernel_rfl) (by first | rfl | kernel_rfl) (HPL.out _) ?_
    rintro e w2 ⟨rfl, rfl⟩
    refine ⟨_, rfl, HS, ?_⟩
    simp only [Act.put, List.setIfInBounds_toArray, List.set_cons_zero, List.set_cons_succ]
    refine hk_val (i := 3) (oi := ⟨some 12, .unOp _ _ _, _, _, _, _⟩) (.bool false) rfl (by kernel_rfl) (by kernel_rfl) (by kernel_rfl) (fun _ _ _ h => h) (by kernel_rfl) (fun _ _ => rfl) HS ?_
    simp only [Act.put, List.setIfInBounds_toArray, List.set_cons_zero, List.set_cons_succ]
    refine hk_val (i := 4) (oi := ⟨some 13, .move _, _, _, _, _⟩) (.bool false) rfl (by kernel_rfl) (by kernel_rfl) (by kernel_rfl) (fun _ _ _ h => h) (by kernel_rfl) (fun _ _ => rfl) HS ?_
    simp only [Act.put, List.setIfInBounds_toArray, List.set_cons_zero, List.set_cons_succ]
    refine hk_val (i := 5) (oi := ⟨some 14, .load _ _, _, _, _, _⟩) (.int .i64 k) rfl (by kernel_rfl) (by kernel_rfl) (by kernel_rfl) (fun _ _ _ h => h) (by kernel_rfl) (fun y hy => ex_load rfl rfl ((HB2.out _ hy).cell 0) (by kernel_rfl)) HS ?_
    simp only [Act.put, List.setIfInBounds_toArray, List.set_cons_zero, List.set_cons_succ]
    refine hk_val (i := 6) (oi := ⟨some 15, .binOp _ _ _ _ _, _, _, _, _⟩) (.bool true) rfl (by kernel_rfl) (by kernel_rfl) (by kernel_rfl) (fun _ _ _ h => h) (by kernel_rfl) (fun _ _ => Hz.ex_ltK rfl rfl rfl (HD1.out)) HS ?_
    simp only [Act.put, List.setIfInBounds_toArray, List.set_cons_zero, List.set_cons_succ]
    refine hk_val (i := 7) (oi := ⟨some 16, .pick _ _ _, _, _, _, _⟩) (.bool true) rfl (by kernel_rfl) (by kernel_rfl) (by kernel_rfl) (fun _ _ _ h => h) (by kernel_rfl) (fun _ _ => rfl) HS ?_
    simp only [Act.put, List.setIfInBounds_toArray, List.set_cons_zero, List.set_cons_succ]
    refine hk_val (i := 8) (oi := ⟨some 17, .move _, _, _, _, _⟩) (.bool true) rfl (by kernel_rfl) (by kernel_rfl) (by kernel_rfl) (fun _ _ _ h => h) (by kernel_rfl) (fun _ _ => rfl) HS ?_
    simp only [Act.put, List.setIfInBounds_toArray, List.set_cons_zero, List.set_cons_succ]
    refine hk_skip (i := 9) (oi := ⟨some 18, .load _ _, _, _, _, _⟩) rfl (by kernel_rfl) (by kernel_rfl) (by kernel_rfl) (fun _ _ _ h => h) (by kernel_rfl) HS ?_
    simp only [Act.put, List.setIfInBounds_toArray, List.set_cons_zero, List.set_cons_succ]
    refine hk_skip (i := 10) (oi := ⟨some 19, .load _ _, _, _, _, _⟩) rfl (by kernel_rfl) (by kernel_rfl) (by kernel_rfl) (fun _ _ _ h => h) (by kernel_rfl) HS ?_
    simp only [Act.put, List.setIfInBounds_toArray, List.set_cons_zero, List.set_cons_succ]
    refine hk_skip (i := 11) (oi := ⟨some 20, .load _ _, _, _, _, _⟩) rfl (by kernel_rfl) (by kernel_rfl) (by kernel_rfl) (fun _ _ _ h => h) (by kernel_rfl) HS ?_
    simp only [Act.put, List.setIfInBounds_toArray, List.set_cons_zero, List.set_cons_succ]
    refine hk_skip (i := 12) (oi := ⟨some 21, .indexAddr _ _ _, _, _, _, _⟩) rfl (by kernel_rfl) (by kernel_rfl) (by kernel_rfl) (fun _ _ _ h => h) (by kernel_rfl) HS ?_
    simp only [Act.put, List.setIfInBounds_toArray, List.set_cons_zero, List.set_cons_succ]
    refine hk_skip (i := 13) (oi := ⟨some 22, .load _ _, _, _, _, _⟩) rfl (by kernel_rfl) (by kernel_rfl) (by kernel_rfl) (fun _ _ _ h => h) (by kernel_rfl) HS ?_
    simp only [Act.put, List.setIfInBounds_toArray, List.set_cons_zero, List.set_cons_succ]
    refine hk_skip (i := 14) (oi := ⟨some 23, .call _, _, _, _, _⟩) rfl (by kernel_rfl) (by kernel_rfl) (by kernel_rfl) (fun _ _ _ h => h) (by kernel_rfl) HS ?_
    simp only [Act.put, List.setIfInBounds_toArray, List.set_cons_zero, List.set_cons_succ]
    refine hk_skip (i := 15) (oi := ⟨some 24, .binOp _ _ _ _ _, _, _, _, _⟩) rfl (by kernel_rfl) (by kernel_rfl) (by kernel_rfl) (fun _ _ _ h => h) (by kernel_rfl) HS ?_
    simp only [Act.put, List.setIfInBounds_toArray, List.set_cons_zero, List.set_cons_succ]
    refine hk_val (i := 16) (oi := ⟨some 25, .pick _ _ _, _, _, _, _⟩) (.bool true) rfl (by kernel_rfl) (by kernel_rfl) (by kernel_rfl) (fun _ _ _ h => h) (by kernel_rfl) (fun _ _ => rfl) HS ?_
    simp only [Act.put, List.setIfInBounds_toArray, List.set_cons_zero, List.set_cons_succ]
    refine wpAnyH_done (by kernel_rfl) ?_ _
    refine qn_in ?_
    have f3 := (HB3.out _ HS).free 0
    have c3 : World.cell? _ ⟨b3, 0, none⟩ = some (.int .i64 0) := (HB3.out _ HS).cell 0
    gi_wp2
    have q3 := (HB3.out _ HS).set 0 (.int .i64 (-1))
    exact ⟨.int .i64 (-1), results_cell1 rfl rfl (run_loadVar_int Tryd.underlying3 (q3.cell 0)), by rw [HE.out], (BW.on HW1.out HS).setCell (p := ⟨b3, 0, none⟩) (by show w.heap.size ≤ b3; omega) _⟩
  · have HD1 := Lib.hid (decide_eq_false h0)
    have HD2 := Lib.hid (decide_eq_true (show roomS (sAt l j) ≤ k by omega))
    unfold sltV at HRM0
    clear h hk hcs hj h0
    refine (callsIn_wide (n := 9)).1 ?_
    refine callsIn_of_wp_marks Tryd.func7 rfl trivial ?_ rfl
    simp only [Tryd.ntmps7, List.size_toArray, List.length_cons, List.length_nil, Nat.reduceAdd, Nat.reduceSub, Array.replicate_succ, Array.replicate_zero, List.push_toArray, List.append_toArray, List.nil_append, List.cons_append]
    gi_wp2
    obtain ⟨n0, hn0⟩ : ∃ n0, w.heap.size = n0 := ⟨_, rfl⟩
    obtain ⟨b1, hb1⟩ : ∃ b, n0 + 1 = b := ⟨_, rfl⟩
    obtain ⟨b2, hb2⟩ : ∃ b, b1 + 1 = b := ⟨_, rfl⟩
    obtain ⟨b3, hb3⟩ : ∃ b, b2 + 1 = b := ⟨_, rfl⟩
    rw [hn0, hb1, hb2, hb3]
    obtain ⟨w1, hw1⟩ : ∃ w1, ((((w.alloc (Obj.cells #[.slice (some ⟨b, off, none⟩) l.length cap] 22)).alloc (Obj.cells #[.int .i64 (j : Int)] 3)).alloc (Obj.cells #[.int .i64 k] 3)).alloc (Obj.cells #[.int .i64 0] 3)) = w1 := ⟨_, rfl⟩
    rw [hw1]
    obtain ⟨HW1, HB0, HB1, HB2, HB3⟩ := src_boxes w (some ⟨b, off, none⟩) l.length cap (j : Int) k hn0 hb1 hb2 hb3 hw1
    have HRM := Lib.hid (fun y (hy : BW w1 y) => HRM0.out y (BW.on HW1.out hy))
    refine wide_held (BW w1) (by kernel_rfl) (by kernel_rfl) ?_
    have HS : BW w1 (World.drew w1) := Below.drew (Below.refl _ _)
    generalize World.drew w1 = wd at *
    refine hk_val (i := 0) (oi := ⟨some 9, .load _ _, _, _, _, _⟩) (.slice (some ⟨b, off, none⟩) l.length cap) rfl (by kernel_rfl) (by kernel_rfl) (by kernel_rfl) (fun _ _ _ h => h) (by kernel_rfl) (fun y hy => ex_load rfl rfl ((HB0.out _ hy).cell 0) (by kernel_rfl)) HS ?_
    simp only [Act.put, List.setIfInBounds_toArray, List.set_cons_zero, List.set_cons_succ]
    refine hk_val (i := 1) (oi := ⟨some 10, .load _ _, _, _, _, _⟩) (.int .i64 (j : Int)) rfl (by kernel_rfl) (by kernel_rfl) (by kernel_rfl) (fun _ _ _ h => h) (by kernel_rfl) (fun y hy => ex_load rfl rfl ((HB1.out _ hy).cell 0) (by kernel_rfl)) HS ?_
    simp only [Act.put, List.setIfInBounds_toArray, List.set_cons_zero, List.set_cons_succ]
    refine hk_call (i := 2) (oi := ⟨some 11, .call _, _, _, _, _⟩) (by kernel_rfl) rfl (by kernel_rfl) (by first | rfl | kernel_rfl) (HPL.out _) ?_
    rintro e w2 ⟨rfl, rfl⟩
    refine ⟨_, rfl, HS, ?_⟩
    simp only [Act.put, List.setIfInBounds_toArray, List.set_cons_zero, List.set_cons_succ]
    refine hk_val (i := 3) (oi := ⟨some 12, .unOp _ _ _, _, _, _, _⟩) (.bool false) rfl (by kernel_rfl) (by kernel_rfl) (by kernel_rfl) (fun _ _ _ h => h) (by kernel_rfl) (fun _ _ => rfl) HS ?_
    simp only [Act.put, List.setIfInBounds_toArray, List.set_cons_zero, List.set_cons_succ]
    refine hk_val (i := 4) (oi := ⟨some 13, .move _, _, _, _, _⟩) (.bool false) rfl (by kernel_rfl) (by kernel_rfl) (by kernel_rfl) (fun _ _ _ h => h) (by kernel_rfl) (fun _ _ => rfl) HS ?_
    simp only [Act.put, List.setIfInBounds_toArray, List.set_cons_zero, List.set_cons_succ]
    refine hk_val (i := 5) (oi := ⟨some 14, .load _ _, _, _, _, _⟩) (.int .i64 k) rfl (by kernel_rfl) (by kernel_rfl) (by kernel_rfl) (fun _ _ _ h => h) (by kernel_rfl) (fun y hy => ex_load rfl rfl ((HB2.out _ hy).cell 0) (by kernel_rfl)) HS ?_
    simp only [Act.put, List.setIfInBounds_toArray, List.set_cons_zero, List.set_cons_succ]
    refine hk_val (i := 6) (oi := ⟨some 15, .binOp _ _ _ _ _, _, _, _, _⟩) (.bool false) rfl (by kernel_rfl) (by kernel_rfl) (by kernel_rfl) (fun _ _ _ h => h) (by kernel_rfl) (fun _ _ => Hz.ex_ltK rfl rfl rfl (HD1.out)) HS ?_
    simp only [Act.put, List.setIfInBounds_toArray, List.set_cons_zero, List.set_cons_succ]
    refine hk_val (i := 7) (oi := ⟨some 16, .pick _ _ _, _, _, _, _⟩) (.bool false) rfl (by kernel_rfl) (by kernel_rfl) (by kernel_rfl) (fun _ _ _ h => h) (by kernel_rfl) (fun _ _ => rfl) HS ?_
    simp only [Act.put, List.setIfInBounds_toArray, List.set_cons_zero, List.set_cons_succ]
    refine hk_val (i := 8) (oi := ⟨some 17, .move _, _, _, _, _⟩) (.bool false) rfl (by kernel_rfl) (by kernel_rfl) (by kernel_rfl) (fun _ _ _ h => h) (by kernel_rfl) (fun _ _ => rfl) HS ?_
    simp only [Act.put, List.setIfInBounds_toArray, List.set_cons_zero, List.set_cons_succ]
    refine hk_val (i := 9) (oi := ⟨some 18, .load _ _, _, _, _, _⟩) (.int .i64 k) rfl (by kernel_rfl) (by kernel_rfl) (by kernel_rfl) (fun _ _ _ h => h) (by kernel_rfl) (fun y hy => ex_load rfl rfl ((HB2.out _ hy).cell 0) (by kernel_rfl)) HS ?_
    simp only [Act.put, List.setIfInBounds_toArray, List.set_cons_zero, List.set_cons_succ]
    refine hk_val (i := 10) (oi := ⟨some 19, .load _ _, _, _, _, _⟩) (.slice (some ⟨b, off, none⟩) l.length cap) rfl (by kernel_rfl) (by kernel_rfl) (by kernel_rfl) (fun _ _ _ h => h) (by kernel_rfl) (fun y hy => ex_load rfl rfl ((HB0.out _ hy).cell 0) (by kernel_rfl)) HS ?_
    simp only [Act.put, List.setIfInBounds_toArray, List.set_cons_zero, List.set_cons_succ]
    refine hk_val (i := 11) (oi := ⟨some 20, .load _ _, _, _, _, _⟩) (.int .i64 (j : Int)) rfl (by kernel_rfl) (by kernel_rfl) (by kernel_rfl) (fun _ _ _ h => h) (by kernel_rfl) (fun y hy => ex_load rfl rfl ((HB1.out _ hy).cell 0) (by kernel_rfl)) HS ?_
    simp only [Act.put, List.setIfInBounds_toArray, List.set_cons_zero, List.set_cons_succ]
    refine hk_val (i := 12) (oi := ⟨some 21, .indexAddr _ _ _, _, _, _, _⟩) (.pointer (some ⟨b, off + j * 18, none⟩)) rfl (by kernel_rfl) (by kernel_rfl) (by kernel_rfl) (fun _ _ _ h => h) (by kernel_rfl) (fun _ _ => Hz.ex_indexz rfl rfl rfl rfl HKL.out Tryd.underlying22 (by kernel_rfl)) HS ?_
    simp only [Act.put, List.setIfInBounds_toArray, List.set_cons_zero, List.set_cons_succ]
    refine hk_val (i := 13) (oi := ⟨some 22, .load _ _, _, _, _, _⟩) (.agg (sltC (sAt l j))) rfl (by kernel_rfl) (by kernel_rfl) (by kernel_rfl) (fun _ _ _ h => h) (by kernel_rfl) (fun y hy => ex_slt (sAt l j) rfl rfl (HCS.out _ (BW.on HW1.out hy)) Tryd.underlying29 rfl (by kernel_rfl)) HS ?_
    simp only [Act.put, List.setIfInBounds_toArray, List.set_cons_zero, List.set_cons_succ]
    refine hk_call (i := 14) (oi := ⟨some 23, .call _, _, _, _, _⟩) (by kernel_rfl) rfl (by kernel_rfl) (by first | rfl | kernel_rfl) (HRM.out _ HS) ?_
    rintro e w3 ⟨rfl, hb⟩
    have HS3 := HS.on hb
    refine ⟨_, rfl, HS3, ?_⟩
    simp only [Act.put, List.setIfInBounds_toArray, List.set_cons_zero, List.set_cons_succ]
    refine hk_val (i := 15) (oi := ⟨some 24, .binOp _ _ _ _ _, _, _, _, _⟩) (.bool true) rfl (by kernel_rfl) (by kernel_rfl) (by kernel_rfl) (fun _ _ _ h => h) (by kernel_rfl) (fun _ _ => Hz.ex_geK rfl rfl rfl (HD2.out)) HS3 ?_
    simp only [Act.put, List.setIfInBounds_toArray, List.set_cons_zero, List.set_cons_succ]
    refine hk_val (i := 16) (oi := ⟨some 25, .pick _ _ _, _, _, _, _⟩) (.bool true) rfl (by kernel_rfl) (by kernel_rfl) (by kernel_rfl) (fun _ _ _ h => h) (by kernel_rfl) (fun _ _ => rfl) HS3 ?_
    simp only [Act.put, List.setIfInBounds_toArray, List.set_cons_zero, List.set_cons_succ]
    refine wpAnyH_done (by kernel_rfl) ?_ _
    refine qn_in ?_
    have f3 := (HB3.out _ HS3).free 0
    have c3 : World.cell? _ ⟨b3, 0, none⟩ = some (.int .i64 0) := (HB3.out _ HS3).cell 0
    gi_wp2
    have q3 := (HB3.out _ HS3).set 0 (.int .i64 (-1))
    exact ⟨.int .i64 (-1), results_cell1 rfl rfl (run_loadVar_int Tryd.underlying3 (q3.cell 0)), by rw [HE.out], (BW.on HW1.out HS3).setCell (p := ⟨b3, 0, none⟩) (by show w.heap.size ≤ b3; omega) _⟩
end Go.Proofs.YtoaonoflekcccaaDoor
