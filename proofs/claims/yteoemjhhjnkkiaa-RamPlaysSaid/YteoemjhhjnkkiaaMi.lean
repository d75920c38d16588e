/- The shared memory: Store, where the write may be. -/
import Derived.Test.YteoemjhhjnkkiaaMh
set_option maxRecDepth 100000
set_option linter.unusedVariables false
namespace Go.Proofs.Yteoemjhhjnkkiaa
open Go.RowKit

/-- The write stands on the log. -/
structure AP (W : World) (p : Pla) (n : Nat) (B T : List Int) (m : Nat) (xs : List Value) (r : Nat → Int) (a z : Int) (v : Value) (w : World) : Prop where
  fr : Fr p.foot W w
  hd : Blk (ramCells (.slice (some ⟨p.gb, 0, none⟩) n p.cb) (.slice (some ⟨p.gt, 0, none⟩) n p.ct) v r) 60 p.g w
  bt : RowB 5 (cellsB B) p.gb w
  tg : RowB 3 (cellsI T) p.gt w
  lg : w.ownsRow 0 31 4 v m xs
  pl : Blk #[.int .i64 a, .int .i64 z] 57 (W.heap.size + 1) w
  hv : ∀ k, v.ownBlock = some k → (k ∈ p.foot ∨ W.heap.size ≤ k) ∧ k ≠ p.g ∧ k ≠ p.gb ∧ k ≠ p.gt
  lt : p.g < W.heap.size
theorem foot_own {p : Pla} {k : Nat} (h : p.vl.ownBlock = some k) : k ∈ p.foot := by simp [Pla.foot, h]
theorem app_done {W x w9 : World} {p : Pla} {n : Nat} {B T : List Int} {L : List Wr} {r : Nat → Int} {y : Wr} {a z : Int} {m cv gv : Nat} {xs : List Value} (h : ST W p n B T L r y a z x) (ho : w9.ownsRow 0 31 4 (.slice (some ⟨gv, 0, none⟩) m cv) m xs) (hg : x.grownBy w9 p.vl.ownBlock) (hgv : p.vl.ownBlock = some gv ∨ gv = x.heap.size) :
    w9.cell? ⟨p.g, 2, none⟩ = some p.vl ∧ w9.frozen? ⟨p.g, 2, none⟩ = false ∧ AP W p n B T m xs r a z (.slice (some ⟨gv, 0, none⟩) m cv) (w9.setCell ⟨p.g, 2, none⟩ (.slice (some ⟨gv, 0, none⟩) m cv)) := by
  have kf : Fr p.vl.ownBlock.toList x w9 := (Fr.refl _ _).grown hg (fun i e => .inl (by simp [e]))
  have hlg : p.g < W.heap.size := h.lt _ (foot_mem p).1
  have hlb : p.gb < W.heap.size := h.lt _ (foot_mem p).2.1
  have hlt : p.gt < W.heap.size := h.lt _ (foot_mem p).2.2
  have hbx := h.bx.lt
  have ne : ∀ k, k = p.g ∨ k = p.gb ∨ k = p.gt ∨ W.heap.size ≤ k → k ∉ p.vl.ownBlock.toList := by
    intro k hk hm
    have e : p.vl.ownBlock = some k := by simpa using hm
    have h1 := h.apl k e
    have h2 := h.lt k (foot_own e)
    omega
  have hgv2 : (gv ∈ p.foot ∨ W.heap.size ≤ gv) ∧ gv ≠ p.g ∧ gv ≠ p.gb ∧ gv ≠ p.gt := by
    rcases hgv with h1 | h1
    · exact ⟨.inl (foot_own h1), h.apl gv h1⟩
    · subst h1
      refine ⟨.inr (by omega), by omega, by omega, by omega⟩
  have hd9 := kf.blk h.hd (ne _ (.inl rfl))
  have kg : Fr [p.g] w9 (w9.setCell ⟨p.g, 2, none⟩ (.slice (some ⟨gv, 0, none⟩) m cv)) := (Fr.refl _ _).setCell (.inl (by simp)) _
  have hap := h.ap
  refine ⟨hd9.cell 2, hd9.free 2, ?_, hd9.set 2 _, ?_, ?_, ?_, ?_, ?_, hlg⟩
  · refine (h.fr.trans (G := p.foot) ((Fr.refl _ _).grown hg (fun i e => .inl (foot_own e))) (fun i hi => .inl hi)).setCell (.inl (foot_mem p).1) _
  · exact (h.bt.fr kf (ne _ (.inr (.inl rfl)))).fr kg (by simpa using hap.1)
  · exact (h.tg.fr kf (ne _ (.inr (.inr (.inl rfl))))).fr kg (by simpa using hap.2.1)
  · refine kg.row ho (fun k hk => ?_)
    cases hk
    simpa using hgv2.2.1
  · exact kg.blk (kf.blk h.pl (ne _ (by omega))) (by simp; omega)
  · intro k hk
    cases hk
    exact hgv2
set_option maxHeartbeats 8000000 in
theorem store_yes {s : Mst} {p : Pla} {w : World} (h : RamAt s p w) (hn : s.b0.length ≤ 1024) (hl : s.l.length ≤ 1000) (t i d : Int) (A Z : Nat) (hd0 : 0 ≤ d) (hd1 : d < 2 ^ 64) (hok : stoOk s.n t ⟨i, A, Z, d⟩ = true) :
    Calls Try.prog 10 #[.pointer (some ⟨p.g, 0, none⟩), .int .i64 t, .agg #[.int .i64 i, .int .i64 (A : Int), .int .i64 (Z : Int), .int .u64 d]] w (RetSto w s p t ⟨i, A, Z, d⟩) := by
  have hok' := hok
  unfold stoOk at hok'
  simp only [Bool.and_eq_true, decide_eq_true_eq] at hok'
  obtain ⟨hm, hi0, hh⟩ := hok'
  have hmo := mayP_out hm
  have hZ : 1 ≤ Z ∧ Z ≤ 8 := by omega
  have haz : A + Z ≤ s.b0.length := by have := hmo.2.2.2; unfold Mst.n at this; omega
  have hp : 0 < s.b0.length := by omega
  have hAA : p.Ab = some ⟨p.gb, 0, none⟩ ∧ p.At = some ⟨p.gt, 0, none⟩ ∧ p.gb ≠ p.g ∧ p.gt ≠ p.g ∧ p.gb ≠ p.gt := by
    rcases h.bytes with h0 | h0
    · omega
    · exact ⟨h0.1, h0.2.1, h0.2.2.2.2⟩
  have hcap := h.cap
  have hA8 : A < p.cb ∧ A < p.ct := by omega
  have HSB := SB.begin h ⟨i, A, Z, d⟩
  have HST0 := ST.begin h hp ⟨i, A, Z, d⟩
  have hk := has_c HSB.2.2 hn A Z (by omega)
  have ht := isHart_any t
  rw [hm] at hk
  rw [hh] at ht
  have HK := Lib.hid hk
  have HT := Lib.hid ht
  have hz := zext_any d (8 * (Z : Int)) hd0 hd1
  rw [show cap64 (8 * (Z : Int)) = 8 * Z by unfold cap64; omega] at hz
  have HZ := Lib.hid hz
  obtain ⟨D, hD⟩ : ∃ D, zx d (8 * Z) = D := ⟨_, rfl⟩
  have hDn : 0 ≤ D := by rw [← hD]; exact zx_nonneg _ _
  have HBY := Lib.hid (by_any D hDn Z (by omega))
  have HE := Lib.hid (fun w' v' => sto_yes (w' := w') (v' := v') hp haz hok h)
  rw [hD] at HZ HE
  have HEO := Lib.hid (fun vb vt vl x hb => endOthers_c (vb := vb) (vt := vt) (vl := vl) (r := s.r) (g := p.g) (w := x) hb t A Z)
  have HIS : (Try.prog.info? 5).map (·.size) = some 1 := by kernel_rfl
  have HAA := Lib.hid hAA
  have HAZ := Lib.hid haz
  have HBL := Lib.hid (bytesM_len s.b0 s.l)
  have HTL := Lib.hid (tagsM_len s.b0 s.l)
  have HI : ¬ i < 0 := by omega
  clear hk ht hz hm hh hmo hok h hD hAA haz HSB
  generalize bytesM s.b0 s.l = B at *
  generalize tagsM s.b0 s.l = T at *
  go_enter Try.func10, Try.ntmps10
  go_upto_region 5 with (first
    | (go_at_call 29; refine HK.out.mono ?_; rintro e w1 ⟨rfl, hb⟩; have HS1 := HST0.on hb; have q0 : w1.cell? ⟨w.heap.size, 0, none⟩ = some (.int .i64 i) := HS1.bx.cell 0; have q2 : w1.cell? ⟨w.heap.size, 2, none⟩ = some (.int .i64 (Z : Int)) := HS1.bx.cell 2; have q3 : w1.cell? ⟨w.heap.size, 3, none⟩ = some (.int .u64 d) := HS1.bx.cell 3; have f3 := HS1.bx.free 3; clear hb)
    | (go_at_call 30; refine (HT.out _).mono ?_; rintro e w2 ⟨rfl, rfl⟩)
    | (go_at_call 31; refine (HZ.out _).mono ?_; rintro e w2 ⟨rfl, rfl⟩))
  have HS2 := (HS1.low D).drew
  clear q0 q2 q3 f3 HS1 HST0 HK HT HZ
  refine wp_region_P (S := fun x => ST w p s.b0.length B T s.l s.r ⟨i, A, Z, D⟩ A Z x) (c := 12) (by kernel_rfl) ?_
  change wpAnyP _ _ _ _ _ _ _ _ _ (World.drew _)
  generalize World.drew _ = w3 at *
  refine hp_val (i := 0) (oi := ⟨some 35, .move _, _, _, _, _⟩) [1, 2, 3, 6, 12] (.pointer (some ⟨p.g, 0, none⟩)) rfl (by kernel_rfl) (by kernel_rfl) (by kernel_rfl) (by kernel_rfl) (by kernel_rfl) rfl (fun _ _ _ h => h) (by kernel_rfl) (fun _ _ => rfl) HS2 ?_
  simp only [Act.put, List.setIfInBounds_toArray, List.set_cons_zero, List.set_cons_succ]
  refine hp_val (i := 1) (oi := ⟨some 36, .nilCheck _, _, _, _, _⟩) [2, 3, 6, 12] (.pointer (some ⟨p.g, 0, none⟩)) rfl (by kernel_rfl) (by kernel_rfl) (by kernel_rfl) (by kernel_rfl) (by kernel_rfl) rfl (fun _ _ _ h => h) (by kernel_rfl) (fun _ _ => rfl) HS2 ?_
  simp only [Act.put, List.setIfInBounds_toArray, List.set_cons_zero, List.set_cons_succ]
  refine hp_val (i := 2) (oi := ⟨some 37, .fieldAddr _ _ _, _, _, _, _⟩) [3, 6, 12] (.pointer (some ⟨p.g, 0, none⟩)) rfl (by kernel_rfl) (by kernel_rfl) (by kernel_rfl) (by kernel_rfl) (by kernel_rfl) rfl (fun _ _ _ h => h) (by kernel_rfl) (fun _ _ => by kernel_rfl) HS2 ?_
  simp only [Act.put, List.setIfInBounds_toArray, List.set_cons_zero, List.set_cons_succ]
  refine hp_val (i := 3) (oi := ⟨some 38, .load _ _, _, _, _, _⟩) [6, 12] (.slice (some ⟨p.gb, 0, none⟩) s.b0.length p.cb) rfl (by kernel_rfl) (by kernel_rfl) (by kernel_rfl) (by kernel_rfl) (by kernel_rfl) rfl (fun _ _ _ h => h) (by kernel_rfl) (fun x hx => ex_load rfl rfl (hx.hd.cell 0) (by kernel_rfl)) HS2 ?_
  simp only [Act.put, List.setIfInBounds_toArray, List.set_cons_zero, List.set_cons_succ]
  refine hp_val (i := 4) (oi := ⟨some 39, .fieldAddr _ _ _, _, _, _, _⟩) [5, 6, 12] (.pointer (some ⟨w.heap.size, 1, none⟩)) rfl (by kernel_rfl) (by kernel_rfl) (by kernel_rfl) (by kernel_rfl) (by kernel_rfl) rfl (fun _ _ _ h => h) (by kernel_rfl) (fun _ _ => by kernel_rfl) HS2 ?_
  simp only [Act.put, List.setIfInBounds_toArray, List.set_cons_zero, List.set_cons_succ]
  refine hp_val (i := 5) (oi := ⟨some 40, .load _ _, _, _, _, _⟩) [6, 12] (.int .i64 (A : Int)) rfl (by kernel_rfl) (by kernel_rfl) (by kernel_rfl) (by kernel_rfl) (by kernel_rfl) rfl (fun _ _ _ h => h) (by kernel_rfl) (fun x hx => ex_load rfl rfl (hx.bx.cell 1) (by kernel_rfl)) HS2 ?_
  simp only [Act.put, List.setIfInBounds_toArray, List.set_cons_zero, List.set_cons_succ]
  refine hp_val (i := 6) (oi := ⟨some 41, .slice _ _ _ _ _, _, _, _, _⟩) [12] (.slice (some ⟨p.gb, A, none⟩) (s.b0.length - A) (p.cb - A)) rfl (by kernel_rfl) (by kernel_rfl) (by kernel_rfl) (by kernel_rfl) (by kernel_rfl) rfl (fun _ _ _ h => h) (by kernel_rfl) (fun _ _ => ex_from0 rfl rfl rfl (by have := HAZ.out; omega) hcap.1 hA8.1 Try.underlying22 (by kernel_rfl)) HS2 ?_
  simp only [Act.put, List.setIfInBounds_toArray, List.set_cons_zero, List.set_cons_succ]
  refine hp_val (i := 7) (oi := ⟨some 42, .fieldAddr _ _ _, _, _, _, _⟩) [8, 11, 12] (.pointer (some ⟨w.heap.size, 3, none⟩)) rfl (by kernel_rfl) (by kernel_rfl) (by kernel_rfl) (by kernel_rfl) (by kernel_rfl) rfl (fun _ _ _ h => h) (by kernel_rfl) (fun _ _ => by kernel_rfl) HS2 ?_
  simp only [Act.put, List.setIfInBounds_toArray, List.set_cons_zero, List.set_cons_succ]
  refine hp_val (i := 8) (oi := ⟨some 43, .load _ _, _, _, _, _⟩) [11, 12] (.int .u64 D) rfl (by kernel_rfl) (by kernel_rfl) (by kernel_rfl) (by kernel_rfl) (by kernel_rfl) rfl (fun _ _ _ h => h) (by kernel_rfl) (fun x hx => ex_load rfl rfl (hx.bx.cell 3) (by kernel_rfl)) HS2 ?_
  simp only [Act.put, List.setIfInBounds_toArray, List.set_cons_zero, List.set_cons_succ]
  refine hp_val (i := 9) (oi := ⟨some 44, .fieldAddr _ _ _, _, _, _, _⟩) [10, 11, 12] (.pointer (some ⟨w.heap.size, 2, none⟩)) rfl (by kernel_rfl) (by kernel_rfl) (by kernel_rfl) (by kernel_rfl) (by kernel_rfl) rfl (fun _ _ _ h => h) (by kernel_rfl) (fun _ _ => by kernel_rfl) HS2 ?_
  simp only [Act.put, List.setIfInBounds_toArray, List.set_cons_zero, List.set_cons_succ]
  refine hp_val (i := 10) (oi := ⟨some 45, .load _ _, _, _, _, _⟩) [11, 12] (.int .i64 (Z : Int)) rfl (by kernel_rfl) (by kernel_rfl) (by kernel_rfl) (by kernel_rfl) (by kernel_rfl) rfl (fun _ _ _ h => h) (by kernel_rfl) (fun x hx => ex_load rfl rfl (hx.bx.cell 2) (by kernel_rfl)) HS2 ?_
  simp only [Act.put, List.setIfInBounds_toArray, List.set_cons_zero, List.set_cons_succ]
  refine heldP_call (i := 11) (oi := ⟨some 46, .call _, _, _, _, _⟩) (by kernel_rfl) rfl rfl (by first | rfl | kernel_rfl) (HBY.out _) ?_
  rintro e w4 ⟨Ab, cb, rfl, hrd, hb⟩
  have HS4 := HS2.on hb
  refine ⟨_, rfl, .inr HS4, ?_⟩
  clear hb HS2 HBY
  simp only [Act.put, List.setIfInBounds_toArray, List.set_cons_zero, List.set_cons_succ]
  refine hp_last (i := 12) (oi := ⟨some 47, .call _, _, _, _, _⟩) (by kernel_rfl) rfl (by kernel_rfl) (by kernel_rfl) ?_
  obtain ⟨ys, hys⟩ := HS4.bt
  refine wp_copy (.tmp 41) (.tmp 46) _ _ rfl 5 Try.underlying22 HIS Ab p.gb A (s.b0.length - A) (p.cb - A) Z cb rfl rfl (cellsB B ++ ys) 5 hys (cellsB (bytesL D Z)) (by unfold cellsB; rw [List.length_map, bytesL_length]; have := HAZ.out; show Z = min Z (s.b0.length - A); omega) (fun h => src_rd hrd h) (by unfold cellsB; rw [List.length_append, List.length_map, List.length_map, bytesL_length, HBL.out]; have := HAZ.out; omega) (cells_oneB _) ?_
  intro w5 hb5 hk5
  have HS5 := HS4.put (by rw [bytesL_length, HBL.out]; exact HAZ.out) hb5 hk5
  clear HS4 hb5 hk5 hrd hys
  simp only [Act.put, List.setIfInBounds_toArray, List.set_cons_zero, List.set_cons_succ]
  refine wpAnyH_done (by kernel_rfl) ?_ _
  generalize putL B A (bytesL D Z) = B5 at *
  have q2 : w5.cell? ⟨w.heap.size, 2, none⟩ = some (.int .i64 (Z : Int)) := HS5.bx.cell 2
  go_wp2
  clear q2
  have HTK := Lib.hid (setK_len T A i)
  go_loopw [50] (fun j wx => ∃ k : Nat, k ≤ Z ∧ j = .int .i64 (k : Int) ∧ ST w p s.b0.length B5 (setK T A i k) s.l s.r ⟨i, A, Z, D⟩ A Z wx) (fun j _ => Z - (intOf j).toNat)
  case atStart => exact ⟨0, by omega, rfl, HS5⟩
  case round =>
    obtain ⟨k, hkz, rfl, hst⟩ := hrel
    clear HS5
    have HST := Lib.hid hst; clear hst
    by_cases hlt : k < Z
    · have hltI : decide ((k : Int) < (Z : Int)) = true := by simpa using hlt
      go_upto_region 9 with (fail)
      have HS6 := HST.out.drew
      clear HST
      refine wp_region_P (S := fun x => ST w p s.b0.length B5 (setK T A i k) s.l s.r ⟨i, A, Z, D⟩ A Z x) (c := 11) (by kernel_rfl) ?_
      change wpAnyP _ _ _ _ _ _ _ _ _ (World.drew _)
      generalize World.drew _ = w6 at *
      refine hp_val (i := 0) (oi := ⟨some 53, .move _, _, _, _, _⟩) [11] (.pointer (some ⟨p.g, 0, none⟩)) rfl (by kernel_rfl) (by kernel_rfl) (by kernel_rfl) (by kernel_rfl) (by kernel_rfl) rfl (fun _ _ _ h => h) (by kernel_rfl) (fun _ _ => rfl) HS6 ?_
      simp only [Act.put, List.setIfInBounds_toArray, List.set_cons_zero, List.set_cons_succ]
      refine hp_val (i := 1) (oi := ⟨some 54, .nilCheck _, _, _, _, _⟩) [11] (.pointer (some ⟨p.g, 0, none⟩)) rfl (by kernel_rfl) (by kernel_rfl) (by kernel_rfl) (by kernel_rfl) (by kernel_rfl) rfl (fun _ _ _ h => h) (by kernel_rfl) (fun _ _ => rfl) HS6 ?_
      simp only [Act.put, List.setIfInBounds_toArray, List.set_cons_zero, List.set_cons_succ]
      refine hp_val (i := 2) (oi := ⟨some 55, .fieldAddr _ _ _, _, _, _, _⟩) [11] (.pointer (some ⟨p.g, 1, none⟩)) rfl (by kernel_rfl) (by kernel_rfl) (by kernel_rfl) (by kernel_rfl) (by kernel_rfl) rfl (fun _ _ _ h => h) (by kernel_rfl) (fun _ _ => by kernel_rfl) HS6 ?_
      simp only [Act.put, List.setIfInBounds_toArray, List.set_cons_zero, List.set_cons_succ]
      refine hp_val (i := 3) (oi := ⟨some 56, .load _ _, _, _, _, _⟩) [11] (.slice (some ⟨p.gt, 0, none⟩) s.b0.length p.ct) rfl (by kernel_rfl) (by kernel_rfl) (by kernel_rfl) (by kernel_rfl) (by kernel_rfl) rfl (fun _ _ _ h => h) (by kernel_rfl) (fun x hx => ex_load rfl rfl (hx.hd.cell 1) (by kernel_rfl)) HS6 ?_
      simp only [Act.put, List.setIfInBounds_toArray, List.set_cons_zero, List.set_cons_succ]
      refine hp_val (i := 4) (oi := ⟨some 57, .fieldAddr _ _ _, _, _, _, _⟩) [11] (.pointer (some ⟨w.heap.size, 1, none⟩)) rfl (by kernel_rfl) (by kernel_rfl) (by kernel_rfl) (by kernel_rfl) (by kernel_rfl) rfl (fun _ _ _ h => h) (by kernel_rfl) (fun _ _ => by kernel_rfl) HS6 ?_
      simp only [Act.put, List.setIfInBounds_toArray, List.set_cons_zero, List.set_cons_succ]
      refine hp_val (i := 5) (oi := ⟨some 58, .load _ _, _, _, _, _⟩) [11] (.int .i64 (A : Int)) rfl (by kernel_rfl) (by kernel_rfl) (by kernel_rfl) (by kernel_rfl) (by kernel_rfl) rfl (fun _ _ _ h => h) (by kernel_rfl) (fun x hx => ex_load rfl rfl (hx.bx.cell 1) (by kernel_rfl)) HS6 ?_
      simp only [Act.put, List.setIfInBounds_toArray, List.set_cons_zero, List.set_cons_succ]
      refine hp_val (i := 6) (oi := ⟨some 59, .move _, _, _, _, _⟩) [11] (.int .i64 (k : Int)) rfl (by kernel_rfl) (by kernel_rfl) (by kernel_rfl) (by kernel_rfl) (by kernel_rfl) rfl (fun _ _ _ h => h) (by kernel_rfl) (fun _ _ => rfl) HS6 ?_
      simp only [Act.put, List.setIfInBounds_toArray, List.set_cons_zero, List.set_cons_succ]
      refine hp_val (i := 7) (oi := ⟨some 60, .binOp _ _ _ _ _, _, _, _, _⟩) [11] (.int .i64 ((A : Int) + (k : Int))) rfl (by kernel_rfl) (by kernel_rfl) (by kernel_rfl) (by kernel_rfl) (by kernel_rfl) rfl (fun _ _ _ h => h) (by kernel_rfl) (fun _ _ => ex_addI rfl rfl rfl (by have := HAZ.out; omega)) HS6 ?_
      simp only [Act.put, List.setIfInBounds_toArray, List.set_cons_zero, List.set_cons_succ]
      refine hp_val (i := 8) (oi := ⟨some 61, .fieldAddr _ _ _, _, _, _, _⟩) [11] (.pointer (some ⟨w.heap.size, 0, none⟩)) rfl (by kernel_rfl) (by kernel_rfl) (by kernel_rfl) (by kernel_rfl) (by kernel_rfl) rfl (fun _ _ _ h => h) (by kernel_rfl) (fun _ _ => by kernel_rfl) HS6 ?_
      simp only [Act.put, List.setIfInBounds_toArray, List.set_cons_zero, List.set_cons_succ]
      refine hp_val (i := 9) (oi := ⟨some 62, .load _ _, _, _, _, _⟩) [11] (.int .i64 i) rfl (by kernel_rfl) (by kernel_rfl) (by kernel_rfl) (by kernel_rfl) (by kernel_rfl) rfl (fun _ _ _ h => h) (by kernel_rfl) (fun x hx => ex_load rfl rfl (hx.bx.cell 0) (by kernel_rfl)) HS6 ?_
      simp only [Act.put, List.setIfInBounds_toArray, List.set_cons_zero, List.set_cons_succ]
      refine hp_val (i := 10) (oi := ⟨some 63, .indexAddr _ _ _, _, _, _, _⟩) [11] (.pointer (some ⟨p.gt, A + k, none⟩)) rfl (by kernel_rfl) (by kernel_rfl) (by kernel_rfl) (by kernel_rfl) (by kernel_rfl) rfl (fun _ _ _ h => h) (by kernel_rfl) (fun _ _ => ex_index rfl rfl rfl (by omega) (by have := HAZ.out; omega) Try.underlying37 (by kernel_rfl)) HS6 ?_
      simp only [Act.put, List.setIfInBounds_toArray, List.set_cons_zero, List.set_cons_succ]
      refine hp_last (i := 11) (oi := ⟨none, .store _ _ _, _, _, _, _⟩) (by kernel_rfl) rfl (by kernel_rfl) (by kernel_rfl) ?_
      have hlk : A + k < (setK T A i k).length := by rw [HTK.out, HTL.out]; have := HAZ.out; omega
      refine wp_store_one (v := .int .i64 i) rfl rfl rfl rfl (HS6.tg.cell (k := A + k) (by unfold cellsI; rw [List.length_map]; exact hlk)) (HS6.tg.free _) (by kernel_rfl) rfl rfl ?_
      have HS7 := Lib.hid (HS6.tag hlk i)
      generalize World.setCell _ _ _ = w7 at *
      clear HS6
      refine wpAnyH_done (by kernel_rfl) ?_ _
      go_wp2
      go_roundw
      case rel => exact ⟨k + 1, by omega, by go_num, HS7.out⟩
      case measure => simp [intOf]; omega
    · obtain rfl : k = Z := by omega
      have hltI : decide ((k : Int) < (k : Int)) = false := by simp
      go_upto_region 11 with (fail)
      have HS8 := HST.out.drew
      clear HST
      refine wp_region_P (S := fun x => ST w p s.b0.length B5 (setK T A i k) s.l s.r ⟨i, A, k, D⟩ A k x) (c := 7) (by kernel_rfl) ?_
      change wpAnyP _ _ _ _ _ _ _ _ _ (World.drew _)
      generalize World.drew _ = w8 at *
      obtain ⟨i0, hi1, hz0, hz1, hz2⟩ := inf_parts (P := Try.prog) (e := 31) (z := .agg (wrCells ⟨0, 0, 0, 0⟩)) (n := 4) (b := 32) (by kernel_rfl)
      refine hp_any (i := 0) (oi := ⟨some 65, .move _, _, _, _, _⟩) (.pointer (some ⟨p.g, 0, none⟩)) rfl (by kernel_rfl) (by kernel_rfl) (by kernel_rfl) (by decide) (fun _ _ _ h => h) (by kernel_rfl) (fun _ => rfl) HS8 ?_
      simp only [Act.put, List.setIfInBounds_toArray, List.set_cons_zero, List.set_cons_succ]
      refine hp_val (i := 1) (oi := ⟨some 66, .move _, _, _, _, _⟩) [2, 3, 4, 7] (.pointer (some ⟨p.g, 0, none⟩)) rfl (by kernel_rfl) (by kernel_rfl) (by kernel_rfl) (by kernel_rfl) (by kernel_rfl) rfl (fun _ _ _ h => h) (by kernel_rfl) (fun _ _ => rfl) HS8 ?_
      simp only [Act.put, List.setIfInBounds_toArray, List.set_cons_zero, List.set_cons_succ]
      refine hp_val (i := 2) (oi := ⟨some 67, .nilCheck _, _, _, _, _⟩) [3, 4, 7] (.pointer (some ⟨p.g, 0, none⟩)) rfl (by kernel_rfl) (by kernel_rfl) (by kernel_rfl) (by kernel_rfl) (by kernel_rfl) rfl (fun _ _ _ h => h) (by kernel_rfl) (fun _ _ => rfl) HS8 ?_
      simp only [Act.put, List.setIfInBounds_toArray, List.set_cons_zero, List.set_cons_succ]
      refine hp_val (i := 3) (oi := ⟨some 68, .fieldAddr _ _ _, _, _, _, _⟩) [4, 7] (.pointer (some ⟨p.g, 2, none⟩)) rfl (by kernel_rfl) (by kernel_rfl) (by kernel_rfl) (by kernel_rfl) (by kernel_rfl) rfl (fun _ _ _ h => h) (by kernel_rfl) (fun _ _ => by kernel_rfl) HS8 ?_
      simp only [Act.put, List.setIfInBounds_toArray, List.set_cons_zero, List.set_cons_succ]
      refine hp_val (i := 4) (oi := ⟨some 69, .load _ _, _, _, _, _⟩) [7] (p.vl) rfl (by kernel_rfl) (by kernel_rfl) (by kernel_rfl) (by kernel_rfl) (by kernel_rfl) rfl (fun _ _ _ h => h) (by kernel_rfl) (fun x hx => ex_load rfl rfl (hx.hd.cell 2) (by kernel_rfl)) HS8 ?_
      simp only [Act.put, List.setIfInBounds_toArray, List.set_cons_zero, List.set_cons_succ]
      refine hp_load (i := 5) (oi := ⟨some 70, .load _ _, _, _, _, _⟩) [6, 7] rfl (by kernel_rfl) (by kernel_rfl) (by kernel_rfl) (by kernel_rfl) (by kernel_rfl) rfl (fun _ _ _ h => h) (by kernel_rfl) _ _ rfl rfl (fun _ h => h.bx) Try.underlying31 rfl (by kernel_rfl) HS8 ?_
      simp only [Act.put, List.setIfInBounds_toArray, List.set_cons_zero, List.set_cons_succ]
      refine hp_one (i := 6) (oi := ⟨some 71, .buildSlice _ _ _, _, _, _, _⟩) (by kernel_rfl) rfl (by kernel_rfl) ?_
      refine Go.wp_buildSlice 48 31 1 _ rfl (wrCells ⟨i, A, k, D⟩) i0 _ Try.underlying48 hi1 hz0 (by rw [hz1]; decide) (by rw [hz1]; decide) (by rw [hz1]; kernel_rfl) ?_
      have HS9 := HS8.on (BW.new (Below.refl w8.heap.size w8) (.cells (wrCells ⟨i, A, k, D⟩) 31))
      refine ⟨HS9, ?_⟩
      have hnew : (w8.alloc (.cells (wrCells ⟨i, A, k, D⟩) 31)).heap[w8.heap.size]? = some (.cells (wrCells ⟨i, A, k, D⟩) 31 (0, 0)) := Blk.new _ _ _
      simp only [Act.put, List.setIfInBounds_toArray, List.set_cons_zero, List.set_cons_succ]
      refine hp_last (i := 7) (oi := ⟨some 72, .call _, _, _, _, _⟩) (by kernel_rfl) rfl (by kernel_rfl) (by kernel_rfl) ?_
      refine wp_append_lies _ (.tmp 69) (.tmp 71) 48 rfl 0 31 i0 _ 4 32 Try.underlying48 hi1 hz0 hz1 hz2 rfl (by decide) p.vl s.l.length (cellsW s.l) rfl HS9.lg ⟨w8.heap.size, 0, none⟩ 1 1 (wrCells ⟨i, A, k, D⟩).toList rfl rfl (World.news_of_block hnew) (by intro u hu; simp [wrCells] at hu; rcases hu with rfl | rfl | rfl | rfl <;> rfl) (by decide) (by unfold maxLen; omega) (by omega) (Nat.zero_le _) _ rfl ?_
      intro gv cv w9 ho9 hg9 hgv hlt9
      clear hnew
      simp only [Act.put, List.setIfInBounds_toArray, List.set_cons_zero, List.set_cons_succ]
      refine hk_val (i := 8) (oi := ⟨some 73, .nilCheck _, _, _, _, _⟩) (.pointer (some ⟨p.g, 0, none⟩)) rfl (by kernel_rfl) (by kernel_rfl) (by kernel_rfl) (fun _ _ _ h => h) (by kernel_rfl) (fun _ _ => rfl) trivial ?_
      simp only [Act.put, List.setIfInBounds_toArray, List.set_cons_zero, List.set_cons_succ]
      refine hk_val (i := 9) (oi := ⟨some 74, .fieldAddr _ _ _, _, _, _, _⟩) (.pointer (some ⟨p.g, 2, none⟩)) rfl (by kernel_rfl) (by kernel_rfl) (by kernel_rfl) (fun _ _ _ h => h) (by kernel_rfl) (fun _ _ => by kernel_rfl) trivial ?_
      simp only [Act.put, List.setIfInBounds_toArray, List.set_cons_zero, List.set_cons_succ]
      refine hk_one (i := 10) (oi := ⟨none, .store _ _ _, _, _, _, _⟩) (by kernel_rfl) rfl (by kernel_rfl) ?_
      obtain ⟨c9, f9, HAP⟩ := app_done HS9 ho9 hg9 hgv
      refine wp_store_one (v := .slice (some ⟨gv, 0, none⟩) (s.l.length + 1) cv) rfl rfl rfl rfl c9 f9 (by kernel_rfl) rfl rfl ?_
      refine ⟨trivial, ?_⟩
      clear c9 f9 ho9 hg9 hgv HS9 hlt9 HS8
      generalize World.setCell _ _ _ = w10 at *
      refine wpAnyH_done (by kernel_rfl) ?_ _
      have hb0 : w10.cell? ⟨w.heap.size + 1, 0, none⟩ = some (.int .i64 (A : Int)) := HAP.pl.cell 0
      have hb1 : w10.cell? ⟨w.heap.size + 1, 1, none⟩ = some (.int .i64 (k : Int)) := HAP.pl.cell 1
      have HP := Lib.hid HAP; clear HAP
      go_wp2_with (first
        | (go_at_call 33; refine (HEO.out _ _ _ _ HP.out.hd).mono ?_; rintro e w11 ⟨rfl, hh1, hh2⟩; have HH1 := Lib.hid hh1; have HH2 := Lib.hid hh2; clear hh1 hh2))
      go_ret
      have h := HP.out
      have hA := HAA.out
      have k2 := HH2.out
      have hg1 : ∀ q, (q = p.gb ∨ q = p.gt) → q ∉ [p.g] := by
        intro q hq hm
        have e : q = p.g := by simpa using hm
        omega
      exact HE.out w11 _ HH1.out (h.bt.fr k2 (hg1 _ (.inl rfl))) (h.tg.fr k2 (hg1 _ (.inr rfl))) (k2.row h.lg (fun q hq => by have := (h.hv q hq).2.1; simpa using this)) hA h.hv (h.fr.trans k2 (fun q hq => by
        obtain rfl : q = p.g := by simpa using hq
        exact .inl (foot_mem p).1))
end Go.Proofs.Yteoemjhhjnkkiaa
