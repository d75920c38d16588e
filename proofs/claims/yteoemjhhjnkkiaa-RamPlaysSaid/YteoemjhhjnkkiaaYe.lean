/- The document's memory: Store. -/
import Derived.Test.YteoemjhhjnkkiaaYc
import Derived.Test.YteoemjhhjnkkiaaMc
set_option maxRecDepth 100000
set_option linter.unusedVariables false
namespace Go.Proofs.Yteoemjhhjnkkiaa
open Go.RowKit

/-- What Store leaves. -/
def RetStR (w : World) (s : Mst) (p : Plr) (t : Int) (x : Wr) (e : Ending) (w' : World) : Prop :=
  e = .returned (.bool (stoOk s.n t x)) ∧ ∃ p', RrAt (stoM s t x) p' w' ∧ p'.g = p.g ∧ (∀ k ∈ p'.foot, k ∈ p.foot ∨ w.heap.size ≤ k) ∧ Fr p.foot w w'
theorem str_no {s : Mst} {p : Plr} {t : Int} {x : Wr} {w w' : World} (h : stoOk s.n t x = false) (hr : RrAt s p w') (k : BW w w') : RetStR w s p t x (.returned (.bool false)) w' := by
  refine ⟨by rw [h], p, ?_, rfl, fun i hi => .inl hi, Fr.of _ k⟩
  unfold stoM
  rw [if_neg (by rw [h]; decide)]
  exact hr
/-- The write lies in a new block, the memory is as it was. -/
def SQ (s : Mst) (p : Plr) (w : World) (x : Wr) (y : World) : Prop := BW w y ∧ Blk (wrCells x) 31 w.heap.size y ∧ RrAt s p y
theorem SQ.on {s : Mst} {p : Plr} {w y y' : World} {x : Wr} (h : SQ s p w x y) (k : BW y y') : SQ s p w x y' := ⟨h.1.on k, h.2.1.on k, h.2.2.on k⟩
theorem SQ.begin {s : Mst} {p : Plr} {w : World} (h : RrAt s p w) (x : Wr) : SQ s p w x (w.alloc (.cells (wrCells x) 31)) := by
  have k : BW w (w.alloc (.cells (wrCells x) 31)) := BW.new (Below.refl _ _) _
  exact ⟨k, Blk.new _ _ _, h.on k⟩
theorem SQ.low {s : Mst} {p : Plr} {w : World} {i a z : Int} (h : RrAt s p w) (v : Int) : SQ s p w ⟨i, a, z, v⟩ (w.alloc (.cells (wrCells ⟨i, a, z, v⟩) 31)) := SQ.begin h ⟨i, a, z, v⟩
/-- The write stands on the log; some harts' reservations have been looked at. -/
structure AQ (W : World) (s : Mst) (p : Plr) (x : Wr) (m : Nat) (xs : List Value) (v : Value) (r : Nat → Int) (w : World) : Prop where
  fr : Fr p.foot W w
  hd : Blk (rrCells p.va v r) 63 p.g w
  byt : w.ownsRow 0 5 1 p.va s.b0.length (cellsB s.b0)
  lg : w.ownsRow 0 31 4 v m xs
  bx : Blk (wrCells x) 31 W.heap.size w
  hv : ∀ k, v.ownBlock = some k → (k ∈ p.foot ∨ W.heap.size ≤ k) ∧ k ≠ p.g ∧ p.va.ownBlock ≠ some k
  ap : ∀ k, p.va.ownBlock = some k → k ≠ p.g
  lt : ∀ k ∈ p.foot, k < W.heap.size
theorem AQ.on {W w w' : World} {s : Mst} {p : Plr} {x : Wr} {m : Nat} {xs : List Value} {v : Value} {r : Nat → Int} (h : AQ W s p x m xs v r w) (k : BW w w') : AQ W s p x m xs v r w' :=
  ⟨h.fr.on k, h.hd.on k, (Fr.of [] k).row h.byt (by simp), (Fr.of [] k).row h.lg (by simp), h.bx.on k, h.hv, h.ap, h.lt⟩
theorem AQ.res {W w w' : World} {s : Mst} {p : Plr} {x : Wr} {m : Nat} {xs : List Value} {v : Value} {r r' : Nat → Int} (h : AQ W s p x m xs v r w) (b : Blk (rrCells p.va v r') 63 p.g w') (k : Fr [p.g] w w') : AQ W s p x m xs v r' w' := by
  have hg : p.g ∈ p.foot := by simp [Plr.foot]
  refine ⟨h.fr.trans k (fun i hi => by
    have e : i = p.g := by simpa using hi
    rw [e]
    exact .inl hg), b, k.row h.byt (fun i hi => by simpa using h.ap i hi), k.row h.lg (fun i hi => by simpa using (h.hv i hi).2.1), k.blk h.bx (by have := h.lt _ hg; simp; omega), h.hv, h.ap, h.lt⟩
theorem rfoot_own {p : Plr} {k : Nat} (h : p.vl.ownBlock = some k) : k ∈ p.foot := by simp [Plr.foot, h]
theorem rfoot_va {p : Plr} {k : Nat} (h : p.va.ownBlock = some k) : k ∈ p.foot := by simp [Plr.foot, h]
theorem rapp_done {W x w9 : World} {s : Mst} {p : Plr} {y : Wr} {m cv gv : Nat} {xs : List Value} (h : SQ s p W y x) (h0 : RrAt s p W) (ho : w9.ownsRow 0 31 4 (.slice (some ⟨gv, 0, none⟩) m cv) m xs) (hg : x.grownBy w9 p.vl.ownBlock) (hgv : p.vl.ownBlock = some gv ∨ gv = x.heap.size) :
    w9.cell? ⟨p.g, 1, none⟩ = some p.vl ∧ w9.frozen? ⟨p.g, 1, none⟩ = false ∧ AQ W s p y m xs (.slice (some ⟨gv, 0, none⟩) m cv) s.r (w9.setCell ⟨p.g, 1, none⟩ (.slice (some ⟨gv, 0, none⟩) m cv)) := by
  have hlt := h0.lt
  have hgm : p.g ∈ p.foot := by simp [Plr.foot]
  have hpg := hlt _ hgm
  have hbx := h.2.1.lt
  have kf : Fr p.vl.ownBlock.toList x w9 := (Fr.refl _ _).grown hg (fun i e => .inl (by simp [e]))
  have ne : ∀ k, k = p.g ∨ W.heap.size ≤ k → k ∉ p.vl.ownBlock.toList := by
    intro k hk hm
    have e : p.vl.ownBlock = some k := by simpa using hm
    have h1 := (h0.apl k e).1
    have h2 := hlt k (rfoot_own e)
    omega
  have hgv2 : (gv ∈ p.foot ∨ W.heap.size ≤ gv) ∧ gv ≠ p.g ∧ p.va.ownBlock ≠ some gv := by
    rcases hgv with h1 | h1
    · exact ⟨.inl (rfoot_own h1), h0.apl gv h1⟩
    · subst h1
      refine ⟨.inr (by omega), by omega, fun e => ?_⟩
      have := hlt _ (rfoot_va e)
      omega
  have hd9 := kf.blk h.2.2.head (ne _ (.inl rfl))
  have kg : Fr [p.g] w9 (w9.setCell ⟨p.g, 1, none⟩ (.slice (some ⟨gv, 0, none⟩) m cv)) := (Fr.refl _ _).setCell (.inl (by simp)) _
  refine ⟨hd9.cell 1, hd9.free 1, ?_, hd9.set 1 _, ?_, ?_, ?_, ?_, h0.ap, hlt⟩
  · refine ((Fr.of p.foot h.1).trans (G := p.foot) ((Fr.refl _ _).grown hg (fun i e => .inl (rfoot_own e))) (fun i hi => .inl hi)).setCell (.inl hgm) _
  · exact kg.row (kf.row h.2.2.byt (fun k hk hm => (h0.apl k (by simpa using hm)).2 hk)) (fun k hk => by simpa using h0.ap k hk)
  · refine kg.row ho (fun k hk => ?_)
    cases hk
    simpa using hgv2.2.1
  · exact kg.blk (kf.blk h.2.1 (ne _ (by omega))) (by simp; omega)
  · intro k hk
    cases hk
    exact hgv2
theorem rend_three (va vl : Value) (t a z : Int) (r : Nat → Int) : rrCells va vl (endK t a z r 3) = rrCells va vl (endR t a z r) := rfl
theorem str_yes {W w' : World} {s : Mst} {p : Plr} {t i d : Int} {A Z : Nat} {v' : Value} (hok : stoOk s.n t ⟨i, A, Z, d⟩ = true) (h : AQ W s p ⟨i, A, Z, zx d (8 * Z)⟩ (s.l.length + 1) (cellsW s.l ++ (wrCells ⟨i, A, Z, zx d (8 * Z)⟩).toList) v' (endK t A Z s.r 3) w') :
    RetStR W s p t ⟨i, A, Z, d⟩ (.returned (.bool true)) w' := by
  refine ⟨by rw [hok], ⟨p.g, p.va, v'⟩, ?_, rfl, ?_, h.fr⟩
  · unfold stoM
    rw [if_pos hok]
    refine ⟨?_, h.byt, ?_, h.ap, fun k hk => (h.hv k hk).2⟩
    · have hd := h.hd
      rw [rend_three] at hd
      exact hd
    · show w'.ownsRow 0 _ 4 v' (s.l ++ [low ⟨i, A, Z, d⟩]).length (cellsW (s.l ++ [low ⟨i, A, Z, d⟩]))
      rw [cellsW_append, cellsW_one, List.length_append]
      exact h.lg
  · intro k hk
    simp only [Plr.foot, List.mem_cons, List.mem_append, Option.mem_toList] at hk ⊢
    rcases hk with rfl | hk | hk
    · exact .inl (.inl rfl)
    · exact .inl (.inr (.inl hk))
    · have := (h.hv k hk).1
      simpa [Plr.foot] using this
set_option maxHeartbeats 4000000 in
theorem rstore_no {s : Mst} {p : Plr} {w : World} (h : RrAt s p w) (hn : s.b0.length ≤ 1024) (t i a z d : Int) (ha : a ≤ 9223372036854775807) (hok : stoOk s.n t ⟨i, a, z, d⟩ = false) :
    Calls Try.prog 11 #[.pointer (some ⟨p.g, 0, none⟩), .int .i64 t, .agg #[.int .i64 i, .int .i64 a, .int .i64 z, .int .u64 d]] w (RetStR w s p t ⟨i, a, z, d⟩) := by
  have HSQ := SQ.begin h ⟨i, a, z, d⟩
  have hk : Calls Try.prog 17 #[.pointer (some ⟨p.g, 0, none⟩), .int .i64 a, .int .i64 z] (w.alloc (.cells #[.int .i64 i, .int .i64 a, .int .i64 z, .int .u64 d] 31)) fun e w' => e = .returned (.bool (mayP s.n a z)) ∧ w.alloc (.cells #[.int .i64 i, .int .i64 a, .int .i64 z, .int .u64 d] 31) = w' := rmay_c HSQ.2.2 hn a z ha
  have HE := Lib.hid (str_no (p := p) (w := w) hok HSQ.2.2 HSQ.1)
  unfold stoOk at hok
  cases hm : mayP s.n a z with
  | false =>
    rw [hm] at hk
    have HK := Lib.hid hk; clear hk hm hok h HSQ
    go_enter Try.func11, Try.ntmps11
    go_wp2_with (first
      | (go_at_call 17; refine HK.out.mono ?_; rintro e w2 ⟨rfl, rfl⟩))
    go_ret
    exact HE.out
  | true =>
    rw [hm] at hk
    have HK := Lib.hid hk; clear hk HSQ
    by_cases hi : i < 0
    · clear hm hok h
      go_enter Try.func11, Try.ntmps11
      go_wp2_with (first
        | (go_at_call 17; refine HK.out.mono ?_; rintro e w2 ⟨rfl, rfl⟩))
      go_ret
      exact HE.out
    · have hh : isHt t = false := by
        rw [hm] at hok
        simpa [show (0 : Int) ≤ i by omega] using hok
      rcases isHt_no hh with h1 | ⟨h1, h2⟩
      all_goals
        clear hh hm hok h
        go_enter Try.func11, Try.ntmps11
        go_wp2_with (first
          | (go_at_call 17; refine HK.out.mono ?_; rintro e w2 ⟨rfl, rfl⟩))
        go_ret
        exact HE.out
set_option maxHeartbeats 16000000 in
theorem rstore_yes {s : Mst} {p : Plr} {w : World} (h : RrAt s p w) (hn : s.b0.length ≤ 1024) (hl : s.l.length ≤ 1000) (t i d : Int) (A Z : Nat) (hd0 : 0 ≤ d) (hd1 : d < 2 ^ 64) (hok : stoOk s.n t ⟨i, A, Z, d⟩ = true) :
    Calls Try.prog 11 #[.pointer (some ⟨p.g, 0, none⟩), .int .i64 t, .agg #[.int .i64 i, .int .i64 (A : Int), .int .i64 (Z : Int), .int .u64 d]] w (RetStR w s p t ⟨i, A, Z, d⟩) := by
  have hok' := hok
  unfold stoOk at hok'
  simp only [Bool.and_eq_true, decide_eq_true_eq] at hok'
  obtain ⟨hm, hi0, hh⟩ := hok'
  have hmo := mayP_out hm
  have hZ : 1 ≤ Z ∧ Z ≤ 8 := by omega
  have hnn : s.n ≤ 1024 := by unfold Mst.n; omega
  have hk : Calls Try.prog 17 #[.pointer (some ⟨p.g, 0, none⟩), .int .i64 (A : Int), .int .i64 (Z : Int)] (w.alloc (.cells #[.int .i64 i, .int .i64 (A : Int), .int .i64 (Z : Int), .int .u64 d] 31)) fun e w' => e = .returned (.bool (mayP s.n A Z)) ∧ w.alloc (.cells #[.int .i64 i, .int .i64 (A : Int), .int .i64 (Z : Int), .int .u64 d] 31) = w' := rmay_c (SQ.begin h ⟨i, A, Z, d⟩).2.2 hn A Z (by omega)
  rw [hm] at hk
  have HK := Lib.hid hk
  have hz := rzext_any d (8 * (Z : Int)) hd0 hd1
  rw [show cap64 (8 * (Z : Int)) = 8 * Z by unfold cap64; omega] at hz
  have HZ := Lib.hid hz
  have HE := Lib.hid (fun w' v' => str_yes (W := w) (w' := w') (v' := v') (p := p) hok)
  obtain ⟨D, hD⟩ : ∃ D, zx d (8 * Z) = D := ⟨_, rfl⟩
  rw [hD] at HZ HE
  have HSL := Lib.hid (SQ.low (i := i) (a := A) (z := Z) h D)
  have HR0 := Lib.hid h
  have HI : ¬ i < 0 := by omega
  have HT1 : (0 : Int) ≤ t ∧ t < 3 := isHt_out hh
  obtain ⟨HT0, HT3⟩ := HT1
  have HT2 : ¬ (2 : Int) < t := by omega
  have HT4 : ¬ t < 0 := by omega
  have HOV := Lib.hid (fun x y => roverlap_any x y (A : Int) (Z : Int))
  clear hk hz hm hh hmo hok h hD
  go_enter Try.func11, Try.ntmps11
  go_upto_region 4 with (first
    | (go_at_call 17; refine HK.out.mono ?_; rintro e w2 ⟨rfl, rfl⟩)
    | (go_at_call 34; refine (HZ.out _).mono ?_; rintro e w2 ⟨rfl, rfl⟩))
  have HS2 : SQ s p w ⟨i, A, Z, D⟩ (World.drew (w.alloc (.cells #[.int .i64 i, .int .i64 (A : Int), .int .i64 (Z : Int), .int .u64 D] 31))) := HSL.out.on (Below.drew (Below.refl _ _))
  clear HSL HK HZ
  refine wp_region_P (S := fun x => SQ s p w ⟨i, A, Z, D⟩ x) (c := 7) (by kernel_rfl) ?_
  change wpAnyP _ _ _ _ _ _ _ _ _ (World.drew _)
  generalize World.drew _ = w8 at *
  obtain ⟨i0, hi1, hz0, hz1, hz2⟩ := inf_parts (P := Try.prog) (e := 31) (z := .agg (wrCells ⟨0, 0, 0, 0⟩)) (n := 4) (b := 32) (by kernel_rfl)
  refine hp_any (i := 0) (oi := ⟨some 36, .move _, _, _, _, _⟩) (.pointer (some ⟨p.g, 0, none⟩)) rfl (by kernel_rfl) (by kernel_rfl) (by kernel_rfl) (by decide) (fun _ _ _ h => h) (by kernel_rfl) (fun _ => rfl) HS2 ?_
  simp only [Act.put, List.setIfInBounds_toArray, List.set_cons_zero, List.set_cons_succ]
  refine hp_val (i := 1) (oi := ⟨some 37, .move _, _, _, _, _⟩) [2, 3, 4, 7] (.pointer (some ⟨p.g, 0, none⟩)) rfl (by kernel_rfl) (by kernel_rfl) (by kernel_rfl) (by kernel_rfl) (by kernel_rfl) rfl (fun _ _ _ h => h) (by kernel_rfl) (fun _ _ => rfl) HS2 ?_
  simp only [Act.put, List.setIfInBounds_toArray, List.set_cons_zero, List.set_cons_succ]
  refine hp_val (i := 2) (oi := ⟨some 38, .nilCheck _, _, _, _, _⟩) [3, 4, 7] (.pointer (some ⟨p.g, 0, none⟩)) rfl (by kernel_rfl) (by kernel_rfl) (by kernel_rfl) (by kernel_rfl) (by kernel_rfl) rfl (fun _ _ _ h => h) (by kernel_rfl) (fun _ _ => rfl) HS2 ?_
  simp only [Act.put, List.setIfInBounds_toArray, List.set_cons_zero, List.set_cons_succ]
  refine hp_val (i := 3) (oi := ⟨some 39, .fieldAddr _ _ _, _, _, _, _⟩) [4, 7] (.pointer (some ⟨p.g, 1, none⟩)) rfl (by kernel_rfl) (by kernel_rfl) (by kernel_rfl) (by kernel_rfl) (by kernel_rfl) rfl (fun _ _ _ h => h) (by kernel_rfl) (fun _ _ => by kernel_rfl) HS2 ?_
  simp only [Act.put, List.setIfInBounds_toArray, List.set_cons_zero, List.set_cons_succ]
  refine hp_val (i := 4) (oi := ⟨some 40, .load _ _, _, _, _, _⟩) [7] (p.vl) rfl (by kernel_rfl) (by kernel_rfl) (by kernel_rfl) (by kernel_rfl) (by kernel_rfl) rfl (fun _ _ _ h => h) (by kernel_rfl) (fun x hx => ex_load rfl rfl (hx.2.2.head.cell 1) (by kernel_rfl)) HS2 ?_
  simp only [Act.put, List.setIfInBounds_toArray, List.set_cons_zero, List.set_cons_succ]
  refine hp_load (i := 5) (oi := ⟨some 41, .load _ _, _, _, _, _⟩) [6, 7] rfl (by kernel_rfl) (by kernel_rfl) (by kernel_rfl) (by kernel_rfl) (by kernel_rfl) rfl (fun _ _ _ h => h) (by kernel_rfl) _ _ rfl rfl (fun _ h => h.2.1) Try.underlying31 rfl (by kernel_rfl) HS2 ?_
  simp only [Act.put, List.setIfInBounds_toArray, List.set_cons_zero, List.set_cons_succ]
  refine hp_one (i := 6) (oi := ⟨some 42, .buildSlice _ _ _, _, _, _, _⟩) (by kernel_rfl) rfl (by kernel_rfl) ?_
  refine Go.wp_buildSlice 48 31 1 _ rfl (wrCells ⟨i, A, Z, D⟩) i0 _ Try.underlying48 hi1 hz0 (by rw [hz1]; decide) (by rw [hz1]; decide) (by rw [hz1]; kernel_rfl) ?_
  have HS9 := HS2.on (BW.new (Below.refl w8.heap.size w8) (.cells (wrCells ⟨i, A, Z, D⟩) 31))
  refine ⟨HS9, ?_⟩
  have hnew : (w8.alloc (.cells (wrCells ⟨i, A, Z, D⟩) 31)).heap[w8.heap.size]? = some (.cells (wrCells ⟨i, A, Z, D⟩) 31 (0, 0)) := Blk.new _ _ _
  simp only [Act.put, List.setIfInBounds_toArray, List.set_cons_zero, List.set_cons_succ]
  refine hp_last (i := 7) (oi := ⟨some 43, .call _, _, _, _, _⟩) (by kernel_rfl) rfl (by kernel_rfl) (by kernel_rfl) ?_
  refine wp_append_lies _ (.tmp 40) (.tmp 42) 48 rfl 0 31 i0 _ 4 32 Try.underlying48 hi1 hz0 hz1 hz2 rfl (by decide) p.vl s.l.length (cellsW s.l) rfl HS9.2.2.log ⟨w8.heap.size, 0, none⟩ 1 1 (wrCells ⟨i, A, Z, D⟩).toList rfl rfl (World.news_of_block hnew) (by intro u hu; simp [wrCells] at hu; rcases hu with rfl | rfl | rfl | rfl <;> rfl) (by decide) (by unfold maxLen; omega) (by omega) (Nat.zero_le _) _ rfl ?_
  intro gv cv w9 ho9 hg9 hgv hlt9
  clear hnew
  simp only [Act.put, List.setIfInBounds_toArray, List.set_cons_zero, List.set_cons_succ]
  refine hk_val (i := 8) (oi := ⟨some 44, .nilCheck _, _, _, _, _⟩) (.pointer (some ⟨p.g, 0, none⟩)) rfl (by kernel_rfl) (by kernel_rfl) (by kernel_rfl) (fun _ _ _ h => h) (by kernel_rfl) (fun _ _ => rfl) trivial ?_
  simp only [Act.put, List.setIfInBounds_toArray, List.set_cons_zero, List.set_cons_succ]
  refine hk_val (i := 9) (oi := ⟨some 45, .fieldAddr _ _ _, _, _, _, _⟩) (.pointer (some ⟨p.g, 1, none⟩)) rfl (by kernel_rfl) (by kernel_rfl) (by kernel_rfl) (fun _ _ _ h => h) (by kernel_rfl) (fun _ _ => by kernel_rfl) trivial ?_
  simp only [Act.put, List.setIfInBounds_toArray, List.set_cons_zero, List.set_cons_succ]
  refine hk_one (i := 10) (oi := ⟨none, .store _ _ _, _, _, _, _⟩) (by kernel_rfl) rfl (by kernel_rfl) ?_
  obtain ⟨q9, f9, HAQ⟩ := rapp_done HS9 HR0.out ho9 hg9 hgv
  refine wp_store_one (v := .slice (some ⟨gv, 0, none⟩) (s.l.length + 1) cv) rfl rfl rfl rfl q9 f9 (by kernel_rfl) rfl rfl ?_
  refine ⟨trivial, ?_⟩
  clear q9 f9 ho9 hg9 hgv HS9 hlt9 HS2 hi1 hz0 hz1 hz2 i0
  generalize World.setCell _ _ _ = w10 at *
  refine wpAnyH_done (by kernel_rfl) ?_ _
  generalize (Value.slice (some ⟨gv, 0, none⟩) (s.l.length + 1) cv) = v' at *
  have HA0 := Lib.hid HAQ
  clear HAQ
  go_wp2
  go_loopw [7] (fun j wx => ∃ (k : Nat) (q : Int), k ≤ 3 ∧ q = k ∧ j = .int .i64 q ∧ AQ w s p ⟨i, A, Z, D⟩ (s.l.length + 1) (cellsW s.l ++ (wrCells ⟨i, A, Z, D⟩).toList) v' (endK t A Z s.r k) wx) (fun j _ => 3 - (intOf j).toNat)
  case atStart => exact ⟨0, 0, by omega, rfl, rfl, by rw [endK_zero]; exact HA0.out⟩
  case round =>
    obtain ⟨k, q, hk, hq, rfl, haq⟩ := hrel
    clear HA0
    have b1 : wr.cell? ⟨w.heap.size, 1, none⟩ = some (.int .i64 (A : Int)) := haq.bx.cell 1
    have b2 : wr.cell? ⟨w.heap.size, 2, none⟩ = some (.int .i64 (Z : Int)) := haq.bx.cell 2
    have hbl := haq.bx.lt
    rcases (by omega : k = 0 ∨ k = 1 ∨ k = 2 ∨ k = 3) with rfl | rfl | rfl | rfl
    · obtain rfl : q = 0 := by omega
      clear hq hk
      have c0 : wr.cell? ⟨p.g, 2, none⟩ = some (.int .i64 0) := haq.hd.cell 2
      have c1 : wr.cell? ⟨p.g, 3, none⟩ = some (.int .i64 (s.r 0)) := haq.hd.cell 3
      have c2 : wr.cell? ⟨p.g, 4, none⟩ = some (.int .i64 (s.r 1)) := haq.hd.cell 4
      have c3 : wr.cell? ⟨p.g, 5, none⟩ = some (.int .u64 0) := haq.hd.cell 5
      have hnw := haq.on (BW.new (Below.refl wr.heap.size wr) (.cells #[.int .i64 0, .int .i64 (s.r 0), .int .i64 (s.r 1), .int .u64 0] 31))
      by_cases ht : (0 : Int) = t
      · have b : ((0 : Int) != t) = false := by simp [ht]
        have e := endK_same t A Z s.r 0 (.inl ht)
        rw [← e] at hnw
        have HN := Lib.hid hnw; clear hnw e ht haq
        go_wp2
        go_roundw
        case rel => exact ⟨1, 1, by omega, rfl, rfl, HN.out⟩
        case measure => simp [intOf]
      · have b : ((0 : Int) != t) = true := by simp [ht]
        have ko := HOV.out (s.r 0) (s.r 1)
        cases ho : ovl (s.r 0) (s.r 1) A Z with
        | false =>
          rw [ho] at ko
          have e := endK_same t A Z s.r 0 (.inr ho)
          rw [← e] at hnw
          have KO := Lib.hid ko
          have HN := Lib.hid hnw; clear hnw e ht haq ko ho
          go_wp2_with (first
            | (go_at_call 26; refine (KO.out _).mono ?_; rintro e w2 ⟨rfl, rfl⟩))
          go_roundw
          case rel => exact ⟨1, 1, by omega, rfl, rfl, HN.out⟩
          case measure => simp [intOf]
        | true =>
          rw [ho] at ko
          have e := endK_set t A Z s.r 0 ht ho
          obtain ⟨w3, e3, b3, k3⟩ := rres_store (P := Try.prog) (ty := 31) hnw.hd (by kernel_rfl) 0 0 0
          rw [show ((0 : Fin 3).1) = 0 from rfl, e] at b3
          have KO := Lib.hid ko
          have HN := Lib.hid (hnw.res b3 k3); clear hnw e ht haq ko ho b3 k3
          go_wp2_with (first
            | (go_at_call 26; refine (KO.out _).mono ?_; rintro e w2 ⟨rfl, rfl⟩)
            | (with_reducible refine store_arm (o := ⟨none, .store _ (.tmp 75) (.tmp 72), _, _, _, _⟩) rfl 31 (.tmp 75) (.tmp 72) rfl rfl rfl e3 ?_))
          go_roundw
          case rel => exact ⟨1, 1, by omega, rfl, rfl, HN.out⟩
          case measure => simp [intOf]
    · obtain rfl : q = 1 := by omega
      clear hq hk
      have c0 : wr.cell? ⟨p.g, 6, none⟩ = some (.int .i64 0) := haq.hd.cell 6
      have c1 : wr.cell? ⟨p.g, 7, none⟩ = some (.int .i64 (s.r 2)) := haq.hd.cell 7
      have c2 : wr.cell? ⟨p.g, 8, none⟩ = some (.int .i64 (s.r 3)) := haq.hd.cell 8
      have c3 : wr.cell? ⟨p.g, 9, none⟩ = some (.int .u64 0) := haq.hd.cell 9
      have hnw := haq.on (BW.new (Below.refl wr.heap.size wr) (.cells #[.int .i64 0, .int .i64 (s.r 2), .int .i64 (s.r 3), .int .u64 0] 31))
      by_cases ht : (1 : Int) = t
      · have b : ((1 : Int) != t) = false := by simp [ht]
        have e := endK_same t A Z s.r 1 (.inl ht)
        rw [← e] at hnw
        have HN := Lib.hid hnw; clear hnw e ht haq
        go_wp2
        go_roundw
        case rel => exact ⟨2, 2, by omega, rfl, rfl, HN.out⟩
        case measure => simp [intOf]
      · have b : ((1 : Int) != t) = true := by simp [ht]
        have ko := HOV.out (s.r 2) (s.r 3)
        cases ho : ovl (s.r 2) (s.r 3) A Z with
        | false =>
          rw [ho] at ko
          have e := endK_same t A Z s.r 1 (.inr ho)
          rw [← e] at hnw
          have KO := Lib.hid ko
          have HN := Lib.hid hnw; clear hnw e ht haq ko ho
          go_wp2_with (first
            | (go_at_call 26; refine (KO.out _).mono ?_; rintro e w2 ⟨rfl, rfl⟩))
          go_roundw
          case rel => exact ⟨2, 2, by omega, rfl, rfl, HN.out⟩
          case measure => simp [intOf]
        | true =>
          rw [ho] at ko
          have e := endK_set t A Z s.r 1 ht ho
          obtain ⟨w3, e3, b3, k3⟩ := rres_store (P := Try.prog) (ty := 31) hnw.hd (by kernel_rfl) 1 0 0
          rw [show ((1 : Fin 3).1) = 1 from rfl, e] at b3
          have KO := Lib.hid ko
          have HN := Lib.hid (hnw.res b3 k3); clear hnw e ht haq ko ho b3 k3
          go_wp2_with (first
            | (go_at_call 26; refine (KO.out _).mono ?_; rintro e w2 ⟨rfl, rfl⟩)
            | (with_reducible refine store_arm (o := ⟨none, .store _ (.tmp 75) (.tmp 72), _, _, _, _⟩) rfl 31 (.tmp 75) (.tmp 72) rfl rfl rfl e3 ?_))
          go_roundw
          case rel => exact ⟨2, 2, by omega, rfl, rfl, HN.out⟩
          case measure => simp [intOf]
    · obtain rfl : q = 2 := by omega
      clear hq hk
      have c0 : wr.cell? ⟨p.g, 10, none⟩ = some (.int .i64 0) := haq.hd.cell 10
      have c1 : wr.cell? ⟨p.g, 11, none⟩ = some (.int .i64 (s.r 4)) := haq.hd.cell 11
      have c2 : wr.cell? ⟨p.g, 12, none⟩ = some (.int .i64 (s.r 5)) := haq.hd.cell 12
      have c3 : wr.cell? ⟨p.g, 13, none⟩ = some (.int .u64 0) := haq.hd.cell 13
      have hnw := haq.on (BW.new (Below.refl wr.heap.size wr) (.cells #[.int .i64 0, .int .i64 (s.r 4), .int .i64 (s.r 5), .int .u64 0] 31))
      by_cases ht : (2 : Int) = t
      · have b : ((2 : Int) != t) = false := by simp [ht]
        have e := endK_same t A Z s.r 2 (.inl ht)
        rw [← e] at hnw
        have HN := Lib.hid hnw; clear hnw e ht haq
        go_wp2
        go_roundw
        case rel => exact ⟨3, 3, by omega, rfl, rfl, HN.out⟩
        case measure => simp [intOf]
      · have b : ((2 : Int) != t) = true := by simp [ht]
        have ko := HOV.out (s.r 4) (s.r 5)
        cases ho : ovl (s.r 4) (s.r 5) A Z with
        | false =>
          rw [ho] at ko
          have e := endK_same t A Z s.r 2 (.inr ho)
          rw [← e] at hnw
          have KO := Lib.hid ko
          have HN := Lib.hid hnw; clear hnw e ht haq ko ho
          go_wp2_with (first
            | (go_at_call 26; refine (KO.out _).mono ?_; rintro e w2 ⟨rfl, rfl⟩))
          go_roundw
          case rel => exact ⟨3, 3, by omega, rfl, rfl, HN.out⟩
          case measure => simp [intOf]
        | true =>
          rw [ho] at ko
          have e := endK_set t A Z s.r 2 ht ho
          obtain ⟨w3, e3, b3, k3⟩ := rres_store (P := Try.prog) (ty := 31) hnw.hd (by kernel_rfl) 2 0 0
          rw [show ((2 : Fin 3).1) = 2 from rfl, e] at b3
          have KO := Lib.hid ko
          have HN := Lib.hid (hnw.res b3 k3); clear hnw e ht haq ko ho b3 k3
          go_wp2_with (first
            | (go_at_call 26; refine (KO.out _).mono ?_; rintro e w2 ⟨rfl, rfl⟩)
            | (with_reducible refine store_arm (o := ⟨none, .store _ (.tmp 75) (.tmp 72), _, _, _, _⟩) rfl 31 (.tmp 75) (.tmp 72) rfl rfl rfl e3 ?_))
          go_roundw
          case rel => exact ⟨3, 3, by omega, rfl, rfl, HN.out⟩
          case measure => simp [intOf]
    · obtain rfl : q = 3 := by omega
      clear hq hk b1 b2
      have HF := Lib.hid (HE.out _ _ haq)
      clear haq
      go_wp2
      go_ret
      exact HF.out
theorem rstore_c {s : Mst} {p : Plr} {w : World} (h : RrAt s p w) (hn : s.b0.length ≤ 1024) (hl : s.l.length ≤ 1000) (t i a z d : Int) (ha : a ≤ 9223372036854775807) (hd0 : 0 ≤ d) (hd1 : d < 2 ^ 64) :
    Calls Try.prog 11 #[.pointer (some ⟨p.g, 0, none⟩), .int .i64 t, .agg #[.int .i64 i, .int .i64 a, .int .i64 z, .int .u64 d]] w (RetStR w s p t ⟨i, a, z, d⟩) := by
  cases hok : stoOk s.n t ⟨i, a, z, d⟩ with
  | false => exact rstore_no h hn t i a z d ha hok
  | true =>
    have hok' := hok
    unfold stoOk at hok'
    simp only [Bool.and_eq_true, decide_eq_true_eq] at hok'
    have hmo := mayP_out hok'.1
    obtain ⟨A, rfl⟩ : ∃ k : Nat, a = (k : Int) := ⟨a.toNat, by have := hmo.2.1; omega⟩
    obtain ⟨Z, rfl⟩ : ∃ k : Nat, z = (k : Int) := ⟨z.toNat, by have := hmo.1; omega⟩
    exact rstore_yes h hn hl t i d A Z hd0 hd1 hok
end Go.Proofs.Yteoemjhhjnkkiaa
