/- The document's Put. -/
import Derived.Test.YtcddgcchpmjdiaaWk
set_option maxRecDepth 100000
set_option linter.unusedVariables false
namespace Go.Proofs.Ytcddgcchpmjdiaa
open Go.RowKit

theorem DAt.lt {D : Dbf} {q : Nat} {vl : Value} {w : World} (h : DAt D q vl w) : q < w.heap.size ∧ ∀ k, vl.ownBlock = some k → k < w.heap.size := ⟨h.head.lt, fun k hk => (h.row.lt k hk).2⟩
/-- One more store. -/
theorem DAt.put {D : Dbf} {q : Nat} {vl : Value} {X Y : World} (h : DAt D q vl X) (x : Sto) {g6 c6 : Nat} (hg : (X.alloc (.cells (stoC x) 63)).grownBy Y vl.ownBlock)
    (hat : vl.ownBlock = some g6 ∨ g6 = (X.alloc (.cells (stoC x) 63)).heap.size) (ho : Y.ownsRow 0 63 5 (.slice (some ⟨g6, 0, none⟩) (D.l.length + 1) c6) (D.l.length + 1) (cellsS D.l ++ (stoC x).toList)) :
    DAt ⟨D.l ++ [x], D.ep⟩ q (.slice (some ⟨g6, 0, none⟩) (D.l.length + 1) c6) (Y.setCell ⟨q, 0, none⟩ (.slice (some ⟨g6, 0, none⟩) (D.l.length + 1) c6)) ∧
      Fr (q :: vl.ownBlock.toList) X (Y.setCell ⟨q, 0, none⟩ (.slice (some ⟨g6, 0, none⟩) (D.l.length + 1) c6)) ∧ (vl.ownBlock = some g6 ∨ X.heap.size ≤ g6) := by
  obtain ⟨hq, hv⟩ := h.lt
  have h1 : Blk #[vl, .int .i64 D.ep] 31 q (X.alloc (.cells (stoC x) 63)) := h.head.alloc _
  have h2 : Blk #[vl, .int .i64 D.ep] 31 q Y := (hg.block q h1.lt (fun e => h.ne q e.symm rfl)).trans h1
  have hgq : g6 ≠ q := by
    rcases hat with e | e
    · exact h.ne g6 e
    · rw [e, World.size_alloc]; omega
  have hset : Fr [q] Y (Y.setCell ⟨q, 0, none⟩ (.slice (some ⟨g6, 0, none⟩) (D.l.length + 1) c6)) := (Fr.refl _ _).setCell (.inl (by simp)) _
  refine ⟨⟨h2.set 0 _, ?_, fun k hk => by cases hk; exact hgq⟩, ?_, ?_⟩
  · have e : cellsS (D.l ++ [x]) = cellsS D.l ++ (stoC x).toList := by rw [cellsS_append]; congr 1
    show World.ownsRow _ 0 63 5 _ (D.l ++ [x]).length (cellsS (D.l ++ [x]))
    rw [e, List.length_append]
    exact hset.row ho (fun k hk hm => by cases hk; exact hgq (by simpa using hm))
  · have f1 : Fr (q :: vl.ownBlock.toList) X Y := ((Fr.refl _ X).alloc (.cells (stoC x) 63)).grown hg (fun i hi => .inl (by simp [hi]))
    exact f1.setCell (.inl (by simp)) _
  · rcases hat with e | e
    · exact .inl e
    · right; rw [e, World.size_alloc]; omega
/-- What Put holds: the buffer, the store that came in. -/
structure PU (D : Dbf) (q : Nat) (vl : Value) (w : World) (x : Wr) (X : World) : Prop where
  d : DAt D q vl X
  low : BW w X
  box : Blk (wrCells x) 34 w.heap.size X
theorem PU.on {D : Dbf} {q : Nat} {vl : Value} {w : World} {x : Wr} {X Z : World} (h : PU D q vl w x X) (k : BW X Z) : PU D q vl w x Z := ⟨h.d.on k, h.low.on k, h.box.on k⟩
theorem PU.zset {D : Dbf} {q : Nat} {vl : Value} {w : World} {x : Wr} {X : World} (h0 : DAt D q vl w) (h : PU D q vl w x X) (Y : Int) : PU D q vl w ⟨x.id, x.addr, x.size, Y⟩ (X.setCell ⟨w.heap.size, 3, none⟩ (.int .u64 Y)) := by
  obtain ⟨hq, hv⟩ := h0.lt
  have hset : Fr [w.heap.size] X (X.setCell ⟨w.heap.size, 3, none⟩ (.int .u64 Y)) := (Fr.refl _ _).setCell (.inl (by simp)) _
  exact ⟨h.d.fr hset (by simp; omega) (fun i hi => by have := hv i hi; simp; omega), Below.setCell h.low (Nat.le_refl _) _, h.box.set 3 _⟩
/-- .. the store as it goes in, and the entries. -/
structure PV (D : Dbf) (q : Nat) (vl : Value) (w : World) (x : Sto) (p B : Nat) (ls : List (List Sto)) (v : Value) (us : List Value) (X : World) : Prop where
  d : DAt D q vl X
  low : BW w X
  st : Blk (stoC x) 63 p X
  rw' : RwAt B ls v us X
theorem PV.on {D : Dbf} {q : Nat} {vl : Value} {w : World} {x : Sto} {p B : Nat} {ls : List (List Sto)} {v : Value} {us : List Value} {X Z : World} (h : PV D q vl w x p B ls v us X) (k : BW X Z) : PV D q vl w x p B ls v us Z := ⟨h.d.on k, h.low.on k, h.st.on k, h.rw'.on k⟩
/-- What Put tells. -/
def RetP (w : World) (s : Bst) (D : Dbf) (q : Nat) (vl : Value) (x : Wr) (e : Ending) (w' : World) : Prop :=
  e = .returned (.bool (placeN s x).2) ∧ ∃ vl', DAt (if (placeN s x).2 = true then ⟨D.l ++ [(low x, D.ep)], D.ep⟩ else D) q vl' w' ∧ Fr (q :: vl.ownBlock.toList) w w' ∧ ∀ k, vl'.ownBlock = some k → vl.ownBlock = some k ∨ w.heap.size ≤ k
theorem RetP.no {w w' : World} {s : Bst} {D : Dbf} {q : Nat} {vl : Value} {x : Wr} (h : (placeN s x).2 = false) (hd : DAt D q vl w') (hb : BW w w') : RetP w s D q vl x (.returned (.bool false)) w' := by
  refine ⟨by rw [h], vl, ?_, Fr.of _ hb, fun k hk => .inl hk⟩
  rw [h]
  exact hd
set_option maxHeartbeats 16000000 in
theorem rput_c {s : Bst} {D : Dbf} {q : Nat} {vl : Value} {w : World} (h : DAt D q vl w) (ht : TI s D) (hok : BsOk s) (hl : D.l.length ≤ 1000) (x : Wr) (hb : x.addr ≤ 9223372036854775807) (hd0 : 0 ≤ x.data) (hd1 : x.data < 2 ^ 64) :
    Calls Try.prog 11 #[.pointer (some ⟨q, 0, none⟩), .agg #[.int .i64 x.id, .int .i64 x.addr, .int .i64 x.size, .int .u64 x.data]] w (RetP w s D q vl x) := by
  obtain ⟨A, c, rfl⟩ := own_shape h.row
  obtain ⟨iS, hiS, hzS, hsS, hbS⟩ := inf_parts (P := Try.prog) (e := 63) (z := .agg (stoC (⟨0, 0, 0, 0⟩, 0))) (n := 5) (b := 40) (by kernel_rfl)
  have HM := Lib.hid (rmay_c x.id x.addr x.size x.data hb)
  have HPU0 : Hid (PU D q (.slice A D.l.length c) w x (w.alloc (.cells #[.int .i64 x.id, .int .i64 x.addr, .int .i64 x.size, .int .u64 x.data] 34))) := ⟨h.on (BW.new (Below.refl _ _) _), BW.new (Below.refl _ _) _, Blk.new _ _ _⟩
  have HBX := Lib.hid (Blk.new #[.int .i64 x.id, .int .i64 x.addr, .int .i64 x.size, .int .u64 x.data] 34 w)
  have HH := Lib.hid h
  cases hm : mayW x with
  | false =>
    have HNO := Lib.hid (fun w' hd hw => RetP.no (w := w) (w' := w') (q := q) (vl := .slice A D.l.length c) (by rw [placeN_no hm] : (placeN s x).2 = false) (D := D) hd hw)
    have hm' : mayW ⟨x.id, x.addr, x.size, x.data⟩ = false := hm
    rw [hm'] at HM
    clear hm hm' h ht hok
    generalize RetP w s D q (.slice A D.l.length c) x = RP at *
    obtain ⟨i, a, z, d⟩ := x
    simp only at *
    go_enter Try.func11, Try.ntmps11
    go_wp2_with (first
      | (go_at_call 32; refine (HM.out _).mono ?_; rintro e w1 ⟨rfl, hb1⟩; have HPU1 := Lib.hid (HPU0.out.on hb1); clear hb1)
      | (with_reducible refine Hz.val_arm (o := ⟨some 9, .load _ (.tmp 3), _, _, _, _⟩) (by kernel_rfl) (Hz.ex_load_all 34 (.tmp 3) rfl rfl HBX.out Try.underlying34 rfl (by kernel_rfl)) ?_))
    try go_ret
    exact HNO.out _ HPU1.out.d HPU1.out.low
  | true =>
    have hmo := mayW_out hm
    have HACC := Lib.hid (acc_iff hok hm)
    have HNO := Lib.hid (fun (hn : ¬ ((∀ k (hk : k < s.es.length), togE s x s.es[k] = true → s.es[k].st.length ≤ 7) ∧ ((∀ k (hk : k < s.es.length), togE s x s.es[k] = false) → s.es.length ≤ 3))) w' hd hw => RetP.no (w := w) (w' := w') (q := q) (vl := .slice A D.l.length c) (by cases hb : (placeN s x).2 with | false => rfl | true => exact absurd ((acc_iff hok hm).1 hb) hn : (placeN s x).2 = false) (D := D) hd hw)
    have HYES := Lib.hid (fun (hy : (∀ k (hk : k < s.es.length), togE s x s.es[k] = true → s.es[k].st.length ≤ 7) ∧ ((∀ k (hk : k < s.es.length), togE s x s.es[k] = false) → s.es.length ≤ 3)) w' vl' (hd : DAt ⟨D.l ++ [(low x, D.ep)], D.ep⟩ q vl' w') (hf : Fr (q :: (Value.slice A D.l.length c).ownBlock.toList) w w') (hv : ∀ k, vl'.ownBlock = some k → (Value.slice A D.l.length c).ownBlock = some k ∨ w.heap.size ≤ k) =>
      (show RetP w s D q (.slice A D.l.length c) x (.returned (.bool true)) w' from by
        have hp := (acc_iff hok hm).2 hy
        exact ⟨by rw [hp], vl', by rw [hp]; exact hd, hf, hv⟩))
    have HTE := Lib.hid (fun e => (show togE s x e = decide (e.ep = s.ep ∧ bkN (hdE e) = bkN x) from rfl))
    have HHD := Lib.hid (fun k (hk : k < s.es.length) => (mayW_out (hok.st _ (List.getElem_mem hk) _ (hdE_mem (hok.some _ (List.getElem_mem hk)).1)).may))
    have HENT := Lib.hid (fun B m cv Av us X (hX : RwAt B (s.es.map entG) (.slice Av m cv) us X) k hk => hX.ent hok (k := k) hk)
    have HE := Lib.hid (fun X (hX : DAt D q (.slice A D.l.length c) X) => (show Calls Try.prog 33 #[.pointer (some ⟨q, 0, none⟩)] X fun e w' => ∃ v us, e = .returned v ∧ RwAt X.heap.size (s.es.map entG) v us w' ∧ BW X w' from by
      have := rentries_c hX hl (fun x hx => (ht.ok hok hx).1)
      rw [ht.grp] at this
      exact this))
    have hl4 := hok.len
    have HEP := Lib.hid ht.ep
    have hzx := rzext_any x.data (8 * x.size) hd0 hd1
    rw [show cap64 (8 * x.size) = 8 * x.size.toNat by unfold cap64; omega] at hzx
    have HZX := Lib.hid hzx
    have HLW : Hid (low x = ⟨x.id, x.addr, x.size, zx x.data (8 * x.size.toNat)⟩) := rfl
    rw [HLW.out] at HYES
    have hm' : mayW ⟨x.id, x.addr, x.size, x.data⟩ = true := hm
    rw [hm'] at HM
    clear hm hm' h ht hok hzx HLW
    generalize RetP w s D q (.slice A D.l.length c) x = RP at *
    generalize hto : togE s x = tg0 at *
    clear hto
    obtain ⟨i, a, z, d⟩ := x
    simp only at *
    obtain ⟨hi0, hz, ha0, _, ha1⟩ := hmo
    obtain ⟨Y, hY⟩ : ∃ Y, zx d (8 * z.toNat) = Y := ⟨_, rfl⟩
    rw [hY] at HZX HYES
    clear hY
    obtain ⟨E, hE⟩ : ∃ E, D.ep = E := ⟨_, rfl⟩
    have HDE := Lib.hid hE
    rw [hE] at HYES HEP
    clear hE
    have hz1 : 1 ≤ z ∧ z ≤ 8 := by omega
    have hbk : bkN ⟨i, a, z, d⟩ = a / 8 := rfl
    rw [hbk, ← HEP.out] at HTE
    clear hbk hz
    go_enter Try.func11, Try.ntmps11
    go_upto_region 4 with (first
      | (go_at_call 32; refine (HM.out _).mono ?_; rintro e w1 ⟨rfl, hb1⟩; have HPU1 := Lib.hid (HPU0.out.on hb1); have q2 : w1.cell? ⟨w.heap.size, 2, none⟩ = some (.int .i64 z) := HPU1.out.box.cell 2; have q3 : w1.cell? ⟨w.heap.size, 3, none⟩ = some (.int .u64 d) := HPU1.out.box.cell 3; have f3 := HPU1.out.box.free 3; clear hb1)
      | (go_at_call 27; refine (HZX.out _).mono ?_; rintro e w2 ⟨rfl, rfl⟩)
      | (with_reducible refine Hz.val_arm (o := ⟨some 9, .load _ (.tmp 3), _, _, _, _⟩) (by kernel_rfl) (Hz.ex_load_all 34 (.tmp 3) rfl rfl HBX.out Try.underlying34 rfl (by kernel_rfl)) ?_))
    have HPU2 := Lib.hid (PU.zset HH.out HPU1.out Y)
    simp only at HPU2
    clear q2 q3 f3 HPU1 HM HZX HPU0
    go_cut [5] from 19 to 24 (fun s5 wx => ∃ p : Nat, s5 = .pointer (some ⟨p, 0, none⟩) ∧ Hid (DAt D q (.slice A D.l.length c) wx ∧ BW w wx ∧ Blk #[.int .i64 i, .int .i64 a, .int .i64 z, .int .u64 Y, .int .i64 E] 63 p wx))
    case first =>
      refine wp_region_held (S := PU D q (.slice A D.l.length c) w ⟨i, a, z, Y⟩) (by kernel_rfl) ?_
      change wpAnyH _ _ _ _ _ _ _ _ (World.drew _)
      have HS := HPU2.out.on (Below.drew (Below.refl _ _))
      clear HPU2
      generalize World.drew _ = w3 at *
      refine hk_load (i := 0) (oi := ⟨some 19, .load _ _, _, _, _, _⟩) rfl (by kernel_rfl) (by kernel_rfl) (by kernel_rfl) (fun _ _ _ h => h) (by kernel_rfl) _ _ rfl rfl (fun _ h => h.box) Try.underlying34 rfl (by kernel_rfl) HS ?_
      simp only [Act.put, List.setIfInBounds_toArray, List.set_cons_zero, List.set_cons_succ]
      refine hk_val (i := 1) (oi := ⟨some 20, .move _, _, _, _, _⟩) (.pointer (some ⟨q, 0, none⟩)) rfl (by kernel_rfl) (by kernel_rfl) (by kernel_rfl) (fun _ _ _ h => h) (by kernel_rfl) (fun _ _ => rfl) HS ?_
      simp only [Act.put, List.setIfInBounds_toArray, List.set_cons_zero, List.set_cons_succ]
      refine hk_val (i := 2) (oi := ⟨some 21, .nilCheck _, _, _, _, _⟩) (.pointer (some ⟨q, 0, none⟩)) rfl (by kernel_rfl) (by kernel_rfl) (by kernel_rfl) (fun _ _ _ h => h) (by kernel_rfl) (fun _ _ => rfl) HS ?_
      simp only [Act.put, List.setIfInBounds_toArray, List.set_cons_zero, List.set_cons_succ]
      refine hk_val (i := 3) (oi := ⟨some 22, .fieldAddr _ _ _, _, _, _, _⟩) (.pointer (some ⟨q, 1, none⟩)) rfl (by kernel_rfl) (by kernel_rfl) (by kernel_rfl) (fun _ _ _ h => h) (by kernel_rfl) (fun _ _ => by kernel_rfl) HS ?_
      simp only [Act.put, List.setIfInBounds_toArray, List.set_cons_zero, List.set_cons_succ]
      refine hk_val (i := 4) (oi := ⟨some 23, .load _ _, _, _, _, _⟩) (.int .i64 E) rfl (by kernel_rfl) (by kernel_rfl) (by kernel_rfl) (fun _ _ _ h => h) (by kernel_rfl) (fun x hx => ex_load rfl rfl (by rw [← HDE.out]; exact hx.d.head.cell 1) (by kernel_rfl)) HS ?_
      simp only [Act.put, List.setIfInBounds_toArray, List.set_cons_zero, List.set_cons_succ]
      refine hk_val (i := 5) (oi := ⟨some 24, .build _ _, _, _, _, _⟩) (.agg #[.int .i64 i, .int .i64 a, .int .i64 z, .int .u64 Y, .int .i64 E]) rfl (by kernel_rfl) (by kernel_rfl) (by kernel_rfl) (fun _ _ _ h => h) (by kernel_rfl) (fun _ _ => by kernel_rfl) HS ?_
      simp only [Act.put, List.setIfInBounds_toArray, List.set_cons_zero, List.set_cons_succ]
      refine Hz.any_one (i := 6) (by kernel_rfl) ?_
      refine Hz.alloc_op (oi := ⟨some 5, .alloc _, _, _, _, _⟩) (cs := stoC (⟨0, 0, 0, 0⟩, 0)) rfl rfl rfl (by kernel_rfl) ?_
      have HS4 := HS.on (BW.new (Below.refl _ w3) (.cells (stoC (⟨0, 0, 0, 0⟩, 0)) 63))
      have HN4 := Blk.new (stoC (⟨0, 0, 0, 0⟩, 0)) 63 w3
      refine ⟨HS4, ?_⟩
      simp only [Act.put, List.setIfInBounds_toArray, List.set_cons_zero, List.set_cons_succ]
      refine Hz.any_one (i := 7) (by kernel_rfl) ?_
      refine Hz.store_op (oi := ⟨none, .store _ _ _, _, _, _, _⟩) (n := 5) rfl rfl rfl 63 (.tmp 5) (.tmp 24) rfl rfl rfl (by kernel_rfl) rfl (by intro v hv; simp at hv; rcases hv with rfl | rfl | rfl | rfl | rfl <;> rfl) (Has.of HN4 rfl) ?_
      intro w6 hb6 hk6
      have hw3 : w.heap.size < w3.heap.size := HS.box.lt
      have hf6 : Fr [w3.heap.size] (w3.alloc (.cells (stoC (⟨0, 0, 0, 0⟩, 0)) 63)) w6 := (Fr.refl _ _).grown hk6 (fun j hj => .inl (by simp at hj; simp [hj]))
      have hlt0 := HH.out.lt
      have hd6 : PU D q (.slice A D.l.length c) w ⟨i, a, z, Y⟩ w6 := ⟨HS4.d.fr hf6 (by simp; omega) (fun j hj => by have := hlt0.2 j hj; simp; omega), Below.stored HS4.low hk6 (by omega) (Below.size HS4.low), hf6.blk HS4.box (by simp; omega)⟩
      refine ⟨hd6, ?_⟩
      refine wpAnyH_done (by kernel_rfl) ?_ _
      go_wp2
      go_meet
      case rel => exact ⟨_, rfl, hd6.d, hd6.low, hb6⟩
    case rest =>
      obtain ⟨p5, rfl, HP5⟩ := hcut
      clear HPU2
      go_wp2_with (first
        | (go_at_call 33; refine (HE.out _ HP5.out.1).mono ?_; rintro e w6 ⟨v, us, rfl, hrw0, hbw⟩; obtain ⟨B, hrw⟩ : ∃ B, RwAt B (s.es.map entG) v us w6 := ⟨_, hrw0⟩; clear hrw0; have hul : us.length = s.es.length := by { rw [hrw.len, List.length_map] }; obtain ⟨Av, cv, rfl⟩ := own_shape hrw.row; rw [hul] at hrw ⊢; have HPV0 : Hid (PV D q (.slice A D.l.length c) w (⟨i, a, z, Y⟩, E) p5 B (s.es.map entG) (.slice Av s.es.length cv) us w6) := ⟨HP5.out.1.on hbw, BW.on HP5.out.2.1 hbw, Blk.on HP5.out.2.2 hbw, hrw⟩; clear hrw hbw hul))
      clear HE HP5
      go_loopw [7, 8] (fun b j wx => ∃ k : Nat, k ≤ s.es.length ∧ j = .int .i64 (k : Int) ∧ ∃ bb : Bool, b = .bool bb ∧ Hid (PV D q (.slice A D.l.length c) w (⟨i, a, z, Y⟩, E) p5 B (s.es.map entG) (.slice Av s.es.length cv) us wx) ∧ Hid ((bb = true → ∃ z, ∃ hz : z < s.es.length, tg0 s.es[z] = true) ∧ (bb = false → ∀ z (hz : z < s.es.length), z < k → tg0 s.es[z] = false)) ∧ Hid (∀ z (hz : z < s.es.length), z < k → tg0 s.es[z] = true → s.es[z].st.length ≤ 7)) (fun _ j _ => s.es.length - (intOf j).toNat)
      case atStart => exact ⟨0, by omega, rfl, false, rfl, HPV0.out, ⟨fun h => (by cases h), fun _ z hz h0 => absurd h0 (Nat.not_lt_zero _)⟩, fun z hz h0 => absurd h0 (Nat.not_lt_zero _)⟩
      case round =>
        obtain ⟨k, hk, rfl, bb, rfl, HY, HB, HL⟩ := hrel
        clear HPV0
        by_cases hlt : k < s.es.length
        · have hltI : (k : Int) < (s.es.length : Int) := by omega
          obtain ⟨gv, gk, ck, rfl, _, hst0, hst8, hcl⟩ := HENT.out _ _ _ _ _ _ HY.out.rw' k hlt
          have hhd := HHD.out k hlt
          have HTK := Lib.hid (HTE.out s.es[k])
          have HBN : Hid (tg0 s.es[k] = false → (bb = true → ∃ z, ∃ hz : z < s.es.length, tg0 s.es[z] = true) ∧ (bb = false → ∀ z (hz : z < s.es.length), z < k + 1 → tg0 s.es[z] = false)) := fun hf => ⟨HB.out.1, fun h1 z hz hzk => by
            by_cases e : z = k
            · subst e; exact hf
            · exact HB.out.2 h1 z hz (by omega)⟩
          have HLN : Hid (tg0 s.es[k] = false ∨ s.es[k].st.length ≤ 7 → ∀ z (hz : z < s.es.length), z < k + 1 → tg0 s.es[z] = true → s.es[z].st.length ≤ 7) := fun hf z hz hzk htz => by
            by_cases e : z = k
            · subst e
              rcases hf with hf | hf
              · rw [hf] at htz; cases htz
              · exact hf
            · exact HL.out z hz (by omega) htz
          have HBY : Hid (tg0 s.es[k] = true → ∃ z, ∃ hz : z < s.es.length, tg0 s.es[z] = true) := fun hy => ⟨k, hlt, hy⟩
          have HNK : Hid (tg0 s.es[k] = true → ¬ s.es[k].st.length ≤ 7 → ¬ ((∀ k (hk : k < s.es.length), tg0 s.es[k] = true → s.es[k].st.length ≤ 7) ∧ ((∀ k (hk : k < s.es.length), tg0 s.es[k] = false) → s.es.length ≤ 3))) := fun h1 h2 h3 => h2 (h3.1 k hlt h1)
          have HCL := Lib.hid hcl
          clear hcl HB HL
          obtain ⟨tk, htk⟩ : ∃ tk, tg0 s.es[k] = tk := ⟨_, rfl⟩
          rw [htk] at HTK HBN HLN HBY HNK
          obtain ⟨lk, hlk⟩ : ∃ lk, s.es[k].st.length = lk := ⟨_, rfl⟩
          rw [hlk] at HLN HNK HCL hst0 hst8
          generalize s.es[k].ep = ek at *
          generalize hdE s.es[k] = hk' at *
          clear htk hlk
          obtain ⟨fi, fa, fz, fd⟩ := hk'
          simp only [stoC] at HCL
          obtain ⟨_, _, hfa0, _, hfa1⟩ := hhd
          simp only at hfa0 hfa1
          have htg := tog_c fi fa fz fd ek i a z Y E ⟨hfa0, by omega⟩ ⟨ha0, by omega⟩
          have HTG := Lib.hid (show ∀ X, Calls Try.prog 34 #[.agg #[.int .i64 fi, .int .i64 fa, .int .i64 fz, .int .u64 fd, .int .i64 ek], .agg #[.int .i64 i, .int .i64 a, .int .i64 z, .int .u64 Y, .int .i64 E]] X fun e w' => e = .returned (.bool tk) ∧ BW X w' from by rw [HTK.out]; exact htg)
          clear htg HTK
          go_wp2_with (fail)
          go_cut [40] from 33 to 40 (fun b wx => b = .bool tk ∧ Hid (PV D q (.slice A D.l.length c) w (⟨i, a, z, Y⟩, E) p5 B (s.es.map entG) (.slice (some ⟨gv, 0, none⟩) s.es.length cv) us wx))
          case first =>
            refine wp_region_held (S := PV D q (.slice A D.l.length c) w (⟨i, a, z, Y⟩, E) p5 B (s.es.map entG) (.slice (some ⟨gv, 0, none⟩) s.es.length cv) us) (by kernel_rfl) ?_
            change wpAnyH _ _ _ _ _ _ _ _ (World.drew _)
            have HS := HY.out.on (Below.drew (Below.refl _ _))
            clear HY
            generalize World.drew _ = w7 at *
            refine hk_val (i := 0) (oi := ⟨some 33, .move _, _, _, _, _⟩) (.slice (some ⟨gv, 0, none⟩) s.es.length cv) rfl (by kernel_rfl) (by kernel_rfl) (by kernel_rfl) (fun _ _ _ h => h) (by kernel_rfl) (fun _ _ => rfl) HS ?_
            simp only [Act.put, List.setIfInBounds_toArray, List.set_cons_zero, List.set_cons_succ]
            refine hk_val (i := 1) (oi := ⟨some 34, .move _, _, _, _, _⟩) (.int .i64 (k : Int)) rfl (by kernel_rfl) (by kernel_rfl) (by kernel_rfl) (fun _ _ _ h => h) (by kernel_rfl) (fun _ _ => rfl) HS ?_
            simp only [Act.put, List.setIfInBounds_toArray, List.set_cons_zero, List.set_cons_succ]
            refine hk_val (i := 2) (oi := ⟨some 35, .indexAddr _ _ _, _, _, _, _⟩) (.pointer (some ⟨gv, k, none⟩)) rfl (by kernel_rfl) (by kernel_rfl) (by kernel_rfl) (fun _ _ _ h => h) (by kernel_rfl) (fun _ _ => ex_index rfl rfl rfl rfl hlt Try.underlying64 (by kernel_rfl)) HS ?_
            simp only [Act.put, List.setIfInBounds_toArray, List.set_cons_zero, List.set_cons_succ]
            refine hk_val (i := 3) (oi := ⟨some 36, .load _ _, _, _, _, _⟩) (.slice (some ⟨gk, 0, none⟩) lk ck) rfl (by kernel_rfl) (by kernel_rfl) (by kernel_rfl) (fun _ _ _ h => h) (by kernel_rfl) (fun x hx => ex_load rfl rfl (HCL.out x hx.rw').1 (by kernel_rfl)) HS ?_
            simp only [Act.put, List.setIfInBounds_toArray, List.set_cons_zero, List.set_cons_succ]
            refine hk_val (i := 4) (oi := ⟨some 37, .indexAddr _ _ _, _, _, _, _⟩) (.pointer (some ⟨gk, 0, none⟩)) rfl (by kernel_rfl) (by kernel_rfl) (by kernel_rfl) (fun _ _ _ h => h) (by kernel_rfl) (fun _ _ => Hz.ex_indexp (z := 5) (j := 0) rfl rfl rfl rfl hst0 Try.underlying29 (by kernel_rfl) rfl) HS ?_
            simp only [Act.put, List.setIfInBounds_toArray, List.set_cons_zero, List.set_cons_succ]
            refine hk_val (i := 5) (oi := ⟨some 38, .load _ _, _, _, _, _⟩) (.agg #[.int .i64 fi, .int .i64 fa, .int .i64 fz, .int .u64 fd, .int .i64 ek]) rfl (by kernel_rfl) (by kernel_rfl) (by kernel_rfl) (fun _ _ _ h => h) (by kernel_rfl) (fun x hx => Hz.ex_load_cells [.int .i64 fi, .int .i64 fa, .int .i64 fz, .int .u64 fd, .int .i64 ek] rfl rfl (fun j v hv => by rw [Nat.zero_add]; exact (HCL.out x hx.rw').2.2 j v hv) Try.underlying63 rfl (by kernel_rfl)) HS ?_
            simp only [Act.put, List.setIfInBounds_toArray, List.set_cons_zero, List.set_cons_succ]
            refine hk_load (i := 6) (oi := ⟨some 39, .load _ _, _, _, _, _⟩) rfl (by kernel_rfl) (by kernel_rfl) (by kernel_rfl) (fun _ _ _ h => h) (by kernel_rfl) _ _ rfl rfl (fun _ h => h.st) Try.underlying63 rfl (by kernel_rfl) HS ?_
            simp only [Act.put, List.setIfInBounds_toArray, List.set_cons_zero, List.set_cons_succ]
            refine hk_call (i := 7) (oi := ⟨some 40, .call _, _, _, _, _⟩) (by kernel_rfl) rfl (by kernel_rfl) (by first | rfl | kernel_rfl) (HTG.out _) ?_
            rintro e w8 ⟨rfl, hb⟩
            have HS8 := HS.on hb
            refine ⟨_, rfl, HS8, ?_⟩
            simp only [Act.put, List.setIfInBounds_toArray, List.set_cons_zero, List.set_cons_succ]
            refine wpAnyH_done (by kernel_rfl) ?_ _
            go_wp2
            go_meet
            case rel => exact ⟨rfl, HS8⟩
          case rest =>
            obtain ⟨rfl, HZ⟩ := hcut
            clear HY
            cases tk with
            | false =>
              have HB2 := Lib.hid (HBN.out rfl)
              have HL2 := Lib.hid (HLN.out (.inl rfl))
              clear HBN HLN HBY HNK
              go_wp2
              go_roundw
              case rel => exact ⟨k + 1, by omega, by first | rfl | go_num, bb, rfl, HZ, HB2, HL2⟩
              case measure => simp [intOf]; omega
            | true =>
              have a1 := (HCL.out _ HZ.out.rw').1
              by_cases h7 : lk ≤ 7
              · have h7I : ¬ (7 : Int) < (lk : Int) := by omega
                have HL2 := Lib.hid (HLN.out (.inr h7))
                have HB2 := Lib.hid (HBY.out rfl)
                clear HBN HLN HBY HNK
                go_wp2
                go_roundw
                case rel => exact ⟨k + 1, by omega, by first | rfl | go_num, true, rfl, HZ, ⟨fun _ => HB2.out, fun h => by cases h⟩, HL2⟩
                case measure => simp [intOf]; omega
              · have h7I : (7 : Int) < (lk : Int) := by omega
                have HNN := Lib.hid (HNK.out rfl h7)
                clear HBN HLN HBY HNK
                go_wp2
                try go_ret
                exact HNO.out HNN.out _ HZ.out.d HZ.out.low
        · obtain rfl : k = s.es.length := by omega
          have HLL : Hid (∀ k (hk : k < s.es.length), tg0 s.es[k] = true → s.es[k].st.length ≤ 7) := fun z hz => HL.out z hz hz
          have HBT : Hid (bb = true → ¬ ∀ z (hz : z < s.es.length), tg0 s.es[z] = false) := fun h1 h2 => by
            obtain ⟨z, hz, h3⟩ := HB.out.1 h1
            rw [h2 z hz] at h3; cases h3
          have HBF : Hid (bb = false → ∀ z (hz : z < s.es.length), tg0 s.es[z] = false) := fun h1 z hz => HB.out.2 h1 z hz hz
          clear HB HL HENT
          have HDL := Lib.hid (fun X (hX : PV D q (.slice A D.l.length c) w (⟨i, a, z, Y⟩, E) p5 B (s.es.map entG) (.slice Av s.es.length cv) us X) => (show X.cell? ⟨q, 0, none⟩ = some (.slice A D.l.length c) from hX.d.head.cell 0))
          have HKQ := Lib.hid (fun X Z (hX : PV D q (.slice A D.l.length c) w (⟨i, a, z, Y⟩, E) p5 B (s.es.map entG) (.slice Av s.es.length cv) us X) (hg : (X.alloc (.cells #[.int .i64 i, .int .i64 a, .int .i64 z, .int .u64 Y, .int .i64 E] 63)).grownBy Z (Value.slice A D.l.length c).ownBlock) => (show Z.cell? ⟨q, 0, none⟩ = some (.slice A D.l.length c) ∧ Z.frozen? ⟨q, 0, none⟩ = false from by
            have h1 := hX.d.head.alloc (.cells #[.int .i64 i, .int .i64 a, .int .i64 z, .int .u64 Y, .int .i64 E] 63)
            have h2 : Blk #[.slice A D.l.length c, .int .i64 D.ep] 31 q Z := (hg.block q h1.lt (fun e => hX.d.ne q e.symm rfl)).trans h1
            exact ⟨h2.cell 0, h2.free 0⟩))
          have HPUT := Lib.hid (fun X Z g6 c6 (hy : (∀ k (hk : k < s.es.length), tg0 s.es[k] = true → s.es[k].st.length ≤ 7) ∧ ((∀ k (hk : k < s.es.length), tg0 s.es[k] = false) → s.es.length ≤ 3)) (hX : PV D q (.slice A D.l.length c) w (⟨i, a, z, Y⟩, E) p5 B (s.es.map entG) (.slice Av s.es.length cv) us X) (hg : (X.alloc (.cells #[.int .i64 i, .int .i64 a, .int .i64 z, .int .u64 Y, .int .i64 E] 63)).grownBy Z (Value.slice A D.l.length c).ownBlock) (hat : (Value.slice A D.l.length c).ownBlock = some g6 ∨ g6 = (X.alloc (.cells #[.int .i64 i, .int .i64 a, .int .i64 z, .int .u64 Y, .int .i64 E] 63)).heap.size) (ho : Z.ownsRow 0 63 5 (.slice (some ⟨g6, 0, none⟩) (D.l.length + 1) c6) (D.l.length + 1) (cellsS D.l ++ [.int .i64 i, .int .i64 a, .int .i64 z, .int .u64 Y, .int .i64 E])) =>
            (show RP (.returned (.bool true)) (Z.setCell ⟨q, 0, none⟩ (.slice (some ⟨g6, 0, none⟩) (D.l.length + 1) c6)) from by
              have := hX.d.put (⟨i, a, z, Y⟩, E) hg hat ho
              rw [HDE.out] at this
              exact HYES.out hy _ _ this.1 ((Fr.of _ hX.low).trans this.2.1 (fun j hj => .inl hj)) (fun k hk => by
                cases hk
                rcases this.2.2 with h1 | h1
                · exact .inl h1
                · exact .inr (Nat.le_trans (Below.size hX.low) h1))))
          have hl4I : (s.es.length : Int) ≤ 4 := by omega
          generalize hcl : cellsS D.l = cl at *
          generalize hnl : D.l.length = nl at *
          have HRW := Lib.hid (fun X (hX : PV D q (.slice A nl c) w (⟨i, a, z, Y⟩, E) p5 B (s.es.map entG) (.slice Av s.es.length cv) us X) => (show X.ownsRow 0 63 5 (.slice A nl c) nl cl from by have h8 := hX.d.row; rw [hcl, hnl] at h8; exact h8))
          clear hcl hnl
          cases bb with
          | true =>
            have HAY := Lib.hid (And.intro HLL.out (fun h => absurd h (HBT.out rfl)) : (∀ k (hk : k < s.es.length), tg0 s.es[k] = true → s.es[k].st.length ≤ 7) ∧ ((∀ k (hk : k < s.es.length), tg0 s.es[k] = false) → s.es.length ≤ 3))
            clear HLL HBT HBF HNO HYES
            go_wp2_with (fail)
            refine wp_region_P (S := PV D q (.slice A nl c) w (⟨i, a, z, Y⟩, E) p5 B (s.es.map entG) (.slice Av s.es.length cv) us) (c := 7) (by kernel_rfl) ?_
            change wpAnyP _ _ _ _ _ _ _ _ _ (World.drew _)
            have HS := HY.out.on (Below.drew (Below.refl _ _))
            clear HY
            generalize World.drew _ = w3 at *
            refine hp_any (i := 0) (oi := ⟨some 54, .move _, _, _, _, _⟩) (.pointer (some ⟨q, 0, none⟩)) rfl (by kernel_rfl) (by kernel_rfl) (by kernel_rfl) (by decide) (fun _ _ _ h => h) (by kernel_rfl) (fun _ => rfl) HS ?_
            simp only [Act.put, List.setIfInBounds_toArray, List.set_cons_zero, List.set_cons_succ]
            refine hp_val (i := 1) (oi := ⟨some 55, .move _, _, _, _, _⟩) [2, 3, 4, 7] (.pointer (some ⟨q, 0, none⟩)) rfl (by kernel_rfl) (by kernel_rfl) (by kernel_rfl) (by kernel_rfl) (by kernel_rfl) rfl (fun _ _ _ h => h) (by kernel_rfl) (fun _ _ => rfl) HS ?_
            simp only [Act.put, List.setIfInBounds_toArray, List.set_cons_zero, List.set_cons_succ]
            refine hp_val (i := 2) (oi := ⟨some 56, .nilCheck _, _, _, _, _⟩) [3, 4, 7] (.pointer (some ⟨q, 0, none⟩)) rfl (by kernel_rfl) (by kernel_rfl) (by kernel_rfl) (by kernel_rfl) (by kernel_rfl) rfl (fun _ _ _ h => h) (by kernel_rfl) (fun _ _ => rfl) HS ?_
            simp only [Act.put, List.setIfInBounds_toArray, List.set_cons_zero, List.set_cons_succ]
            refine hp_val (i := 3) (oi := ⟨some 57, .fieldAddr _ _ _, _, _, _, _⟩) [4, 7] (.pointer (some ⟨q, 0, none⟩)) rfl (by kernel_rfl) (by kernel_rfl) (by kernel_rfl) (by kernel_rfl) (by kernel_rfl) rfl (fun _ _ _ h => h) (by kernel_rfl) (fun _ _ => by kernel_rfl) HS ?_
            simp only [Act.put, List.setIfInBounds_toArray, List.set_cons_zero, List.set_cons_succ]
            refine hp_val (i := 4) (oi := ⟨some 58, .load _ _, _, _, _, _⟩) [7] (.slice A nl c) rfl (by kernel_rfl) (by kernel_rfl) (by kernel_rfl) (by kernel_rfl) (by kernel_rfl) rfl (fun _ _ _ h => h) (by kernel_rfl) (fun x hx => ex_load rfl rfl (HDL.out x hx) (by kernel_rfl)) HS ?_
            simp only [Act.put, List.setIfInBounds_toArray, List.set_cons_zero, List.set_cons_succ]
            refine hp_load (i := 5) (oi := ⟨some 59, .load _ _, _, _, _, _⟩) [6, 7] rfl (by kernel_rfl) (by kernel_rfl) (by kernel_rfl) (by kernel_rfl) (by kernel_rfl) rfl (fun _ _ _ h => h) (by kernel_rfl) _ _ rfl rfl (fun _ h => h.st) Try.underlying63 rfl (by kernel_rfl) HS ?_
            simp only [Act.put, List.setIfInBounds_toArray, List.set_cons_zero, List.set_cons_succ]
            refine hp_one (i := 6) (oi := ⟨some 60, .buildSlice _ _ _, _, _, _, _⟩) (by kernel_rfl) rfl (by kernel_rfl) ?_
            refine Go.wp_buildSlice 29 63 1 _ rfl #[.int .i64 i, .int .i64 a, .int .i64 z, .int .u64 Y, .int .i64 E] iS _ Try.underlying29 hiS hzS (by rw [hsS]; decide) (by rw [hsS]; decide) (by rw [hsS]; kernel_rfl) ?_
            have HS1 := Lib.hid (HS.on (BW.new (Below.refl w3.heap.size w3) (.cells #[.int .i64 i, .int .i64 a, .int .i64 z, .int .u64 Y, .int .i64 E] 63)))
            refine ⟨HS1.out, ?_⟩
            have hnew : (w3.alloc (.cells #[.int .i64 i, .int .i64 a, .int .i64 z, .int .u64 Y, .int .i64 E] 63)).heap[w3.heap.size]? = some (.cells #[.int .i64 i, .int .i64 a, .int .i64 z, .int .u64 Y, .int .i64 E] 63 (0, 0)) := Blk.new _ _ _
            simp only [Act.put, List.setIfInBounds_toArray, List.set_cons_zero, List.set_cons_succ]
            refine hp_last (i := 7) (oi := ⟨some 61, .call _, _, _, _, _⟩) (by kernel_rfl) rfl (by kernel_rfl) (by kernel_rfl) ?_
            refine wp_append_lies _ (.tmp 58) (.tmp 60) 29 rfl 0 63 iS _ 5 40 Try.underlying29 hiS hzS hsS hbS rfl (by decide) (.slice A nl c) nl cl rfl (HRW.out _ HS1.out) ⟨w3.heap.size, 0, none⟩ 1 1 [.int .i64 i, .int .i64 a, .int .i64 z, .int .u64 Y, .int .i64 E] rfl rfl (World.news_of_block hnew) (by intro u hu; simp at hu; rcases hu with rfl | rfl | rfl | rfl | rfl <;> rfl) (by decide) (by unfold maxLen; omega) (by omega) (Nat.zero_le _) _ rfl ?_
            intro g6 c6 w6 ho6 hg6 hat6 hlt6
            have HKP6 := HKQ.out _ _ HS hg6
            have HXP := Lib.hid (HPUT.out _ _ _ _ HAY.out HS hg6 hat6 ho6)
            clear hnew ho6 hg6 hat6 hlt6
            simp only [Act.put, List.setIfInBounds_toArray, List.set_cons_zero, List.set_cons_succ]
            refine hk_val (i := 8) (oi := ⟨some 62, .nilCheck _, _, _, _, _⟩) (.pointer (some ⟨q, 0, none⟩)) rfl (by kernel_rfl) (by kernel_rfl) (by kernel_rfl) (fun _ _ _ h => h) (by kernel_rfl) (fun _ _ => rfl) trivial ?_
            simp only [Act.put, List.setIfInBounds_toArray, List.set_cons_zero, List.set_cons_succ]
            refine hk_val (i := 9) (oi := ⟨some 63, .fieldAddr _ _ _, _, _, _, _⟩) (.pointer (some ⟨q, 0, none⟩)) rfl (by kernel_rfl) (by kernel_rfl) (by kernel_rfl) (fun _ _ _ h => h) (by kernel_rfl) (fun _ _ => by kernel_rfl) trivial ?_
            simp only [Act.put, List.setIfInBounds_toArray, List.set_cons_zero, List.set_cons_succ]
            refine hk_one (i := 10) (oi := ⟨none, .store _ _ _, _, _, _, _⟩) (by kernel_rfl) rfl (by kernel_rfl) ?_
            refine wp_store_one (v := .slice (some ⟨g6, 0, none⟩) (nl + 1) c6) rfl rfl rfl rfl HKP6.1 HKP6.2 (by kernel_rfl) rfl rfl ?_
            refine ⟨trivial, ?_⟩
            clear HKP6
            generalize World.setCell _ _ _ = x9 at *
            refine wpAnyH_done (by kernel_rfl) ?_ _
            go_wp2
            try go_ret
            exact HXP.out
          | false =>
            by_cases h3 : s.es.length ≤ 3
            · have h3I : ¬ (3 : Int) < (s.es.length : Int) := by omega
              have HAY := Lib.hid (And.intro HLL.out (fun _ => h3) : (∀ k (hk : k < s.es.length), tg0 s.es[k] = true → s.es[k].st.length ≤ 7) ∧ ((∀ k (hk : k < s.es.length), tg0 s.es[k] = false) → s.es.length ≤ 3))
              clear HLL HBT HBF HNO HYES
              go_wp2_with (fail)
              refine wp_region_P (S := PV D q (.slice A nl c) w (⟨i, a, z, Y⟩, E) p5 B (s.es.map entG) (.slice Av s.es.length cv) us) (c := 7) (by kernel_rfl) ?_
              change wpAnyP _ _ _ _ _ _ _ _ _ (World.drew _)
              have HS := HY.out.on (Below.drew (Below.refl _ _))
              clear HY
              generalize World.drew _ = w3 at *
              refine hp_any (i := 0) (oi := ⟨some 54, .move _, _, _, _, _⟩) (.pointer (some ⟨q, 0, none⟩)) rfl (by kernel_rfl) (by kernel_rfl) (by kernel_rfl) (by decide) (fun _ _ _ h => h) (by kernel_rfl) (fun _ => rfl) HS ?_
              simp only [Act.put, List.setIfInBounds_toArray, List.set_cons_zero, List.set_cons_succ]
              refine hp_val (i := 1) (oi := ⟨some 55, .move _, _, _, _, _⟩) [2, 3, 4, 7] (.pointer (some ⟨q, 0, none⟩)) rfl (by kernel_rfl) (by kernel_rfl) (by kernel_rfl) (by kernel_rfl) (by kernel_rfl) rfl (fun _ _ _ h => h) (by kernel_rfl) (fun _ _ => rfl) HS ?_
              simp only [Act.put, List.setIfInBounds_toArray, List.set_cons_zero, List.set_cons_succ]
              refine hp_val (i := 2) (oi := ⟨some 56, .nilCheck _, _, _, _, _⟩) [3, 4, 7] (.pointer (some ⟨q, 0, none⟩)) rfl (by kernel_rfl) (by kernel_rfl) (by kernel_rfl) (by kernel_rfl) (by kernel_rfl) rfl (fun _ _ _ h => h) (by kernel_rfl) (fun _ _ => rfl) HS ?_
              simp only [Act.put, List.setIfInBounds_toArray, List.set_cons_zero, List.set_cons_succ]
              refine hp_val (i := 3) (oi := ⟨some 57, .fieldAddr _ _ _, _, _, _, _⟩) [4, 7] (.pointer (some ⟨q, 0, none⟩)) rfl (by kernel_rfl) (by kernel_rfl) (by kernel_rfl) (by kernel_rfl) (by kernel_rfl) rfl (fun _ _ _ h => h) (by kernel_rfl) (fun _ _ => by kernel_rfl) HS ?_
              simp only [Act.put, List.setIfInBounds_toArray, List.set_cons_zero, List.set_cons_succ]
              refine hp_val (i := 4) (oi := ⟨some 58, .load _ _, _, _, _, _⟩) [7] (.slice A nl c) rfl (by kernel_rfl) (by kernel_rfl) (by kernel_rfl) (by kernel_rfl) (by kernel_rfl) rfl (fun _ _ _ h => h) (by kernel_rfl) (fun x hx => ex_load rfl rfl (HDL.out x hx) (by kernel_rfl)) HS ?_
              simp only [Act.put, List.setIfInBounds_toArray, List.set_cons_zero, List.set_cons_succ]
              refine hp_load (i := 5) (oi := ⟨some 59, .load _ _, _, _, _, _⟩) [6, 7] rfl (by kernel_rfl) (by kernel_rfl) (by kernel_rfl) (by kernel_rfl) (by kernel_rfl) rfl (fun _ _ _ h => h) (by kernel_rfl) _ _ rfl rfl (fun _ h => h.st) Try.underlying63 rfl (by kernel_rfl) HS ?_
              simp only [Act.put, List.setIfInBounds_toArray, List.set_cons_zero, List.set_cons_succ]
              refine hp_one (i := 6) (oi := ⟨some 60, .buildSlice _ _ _, _, _, _, _⟩) (by kernel_rfl) rfl (by kernel_rfl) ?_
              refine Go.wp_buildSlice 29 63 1 _ rfl #[.int .i64 i, .int .i64 a, .int .i64 z, .int .u64 Y, .int .i64 E] iS _ Try.underlying29 hiS hzS (by rw [hsS]; decide) (by rw [hsS]; decide) (by rw [hsS]; kernel_rfl) ?_
              have HS1 := Lib.hid (HS.on (BW.new (Below.refl w3.heap.size w3) (.cells #[.int .i64 i, .int .i64 a, .int .i64 z, .int .u64 Y, .int .i64 E] 63)))
              refine ⟨HS1.out, ?_⟩
              have hnew : (w3.alloc (.cells #[.int .i64 i, .int .i64 a, .int .i64 z, .int .u64 Y, .int .i64 E] 63)).heap[w3.heap.size]? = some (.cells #[.int .i64 i, .int .i64 a, .int .i64 z, .int .u64 Y, .int .i64 E] 63 (0, 0)) := Blk.new _ _ _
              simp only [Act.put, List.setIfInBounds_toArray, List.set_cons_zero, List.set_cons_succ]
              refine hp_last (i := 7) (oi := ⟨some 61, .call _, _, _, _, _⟩) (by kernel_rfl) rfl (by kernel_rfl) (by kernel_rfl) ?_
              refine wp_append_lies _ (.tmp 58) (.tmp 60) 29 rfl 0 63 iS _ 5 40 Try.underlying29 hiS hzS hsS hbS rfl (by decide) (.slice A nl c) nl cl rfl (HRW.out _ HS1.out) ⟨w3.heap.size, 0, none⟩ 1 1 [.int .i64 i, .int .i64 a, .int .i64 z, .int .u64 Y, .int .i64 E] rfl rfl (World.news_of_block hnew) (by intro u hu; simp at hu; rcases hu with rfl | rfl | rfl | rfl | rfl <;> rfl) (by decide) (by unfold maxLen; omega) (by omega) (Nat.zero_le _) _ rfl ?_
              intro g6 c6 w6 ho6 hg6 hat6 hlt6
              have HKP6 := HKQ.out _ _ HS hg6
              have HXP := Lib.hid (HPUT.out _ _ _ _ HAY.out HS hg6 hat6 ho6)
              clear hnew ho6 hg6 hat6 hlt6
              simp only [Act.put, List.setIfInBounds_toArray, List.set_cons_zero, List.set_cons_succ]
              refine hk_val (i := 8) (oi := ⟨some 62, .nilCheck _, _, _, _, _⟩) (.pointer (some ⟨q, 0, none⟩)) rfl (by kernel_rfl) (by kernel_rfl) (by kernel_rfl) (fun _ _ _ h => h) (by kernel_rfl) (fun _ _ => rfl) trivial ?_
              simp only [Act.put, List.setIfInBounds_toArray, List.set_cons_zero, List.set_cons_succ]
              refine hk_val (i := 9) (oi := ⟨some 63, .fieldAddr _ _ _, _, _, _, _⟩) (.pointer (some ⟨q, 0, none⟩)) rfl (by kernel_rfl) (by kernel_rfl) (by kernel_rfl) (fun _ _ _ h => h) (by kernel_rfl) (fun _ _ => by kernel_rfl) trivial ?_
              simp only [Act.put, List.setIfInBounds_toArray, List.set_cons_zero, List.set_cons_succ]
              refine hk_one (i := 10) (oi := ⟨none, .store _ _ _, _, _, _, _⟩) (by kernel_rfl) rfl (by kernel_rfl) ?_
              refine wp_store_one (v := .slice (some ⟨g6, 0, none⟩) (nl + 1) c6) rfl rfl rfl rfl HKP6.1 HKP6.2 (by kernel_rfl) rfl rfl ?_
              refine ⟨trivial, ?_⟩
              clear HKP6
              generalize World.setCell _ _ _ = x9 at *
              refine wpAnyH_done (by kernel_rfl) ?_ _
              go_wp2
              try go_ret
              exact HXP.out
            · have h3I : (3 : Int) < (s.es.length : Int) := by omega
              have HNN : Hid (¬ ((∀ k (hk : k < s.es.length), tg0 s.es[k] = true → s.es[k].st.length ≤ 7) ∧ ((∀ k (hk : k < s.es.length), tg0 s.es[k] = false) → s.es.length ≤ 3))) := fun h => h3 (h.2 (HBF.out rfl))
              clear HLL HBT HBF HPUT
              go_wp2
              try go_ret
              exact HNO.out HNN.out _ HY.out.d HY.out.low
end Go.Proofs.Ytcddgcchpmjdiaa
