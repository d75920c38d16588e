/- A buffer is the document's: all that it tells. -/
import Derived.Test.YtcddgcchpmjdiaaWm
import Derived.Test.YtcddgcchpmjdiaaRi
set_option maxRecDepth 100000
set_option linter.unusedVariables false
namespace Go.Proofs.Ytcddgcchpmjdiaa
open Go.RowKit

theorem wr_cellS {w : World} {A : Option Addr} {l : List Wr} (h : Rd w w.heap.size A (cellsW l)) (hl : 0 < l.length) : ∃ b off, A = some ⟨b, off, none⟩ ∧ b < w.heap.size ∧ ∀ k (hk : k < l.length), ∀ t v, (wrCells l[k]).toList[t]? = some v → w.cell? ⟨b, off + k * 4 + t, none⟩ = some v := by
  have hz : ∀ x : Wr, ((wrCells x).toList).length = 4 := fun _ => rfl
  rcases h with h0 | ⟨b, off, rfl, hb, hc⟩
  · have h1 := flat_len (fun x => (wrCells x).toList) 4 hz l
    rw [show l.flatMap (fun x => (wrCells x).toList) = [] from h0] at h1
    simp at h1
    omega
  · refine ⟨b, off, rfl, hb, fun k hk t v hv => ?_⟩
    have ht : t < 4 := by have := (List.getElem?_eq_some_iff.1 hv).1; rwa [hz] at this
    have e := flat_at (fun x => (wrCells x).toList) 4 hz l k t ht
    rw [List.getElem?_eq_getElem hk] at e
    have := hc (k * 4 + t) v (e.trans hv)
    rw [← Nat.add_assoc] at this
    exact this
theorem run_neq_wrS (a b c d : Int) (w : World) : (binOp .neq 34 (.agg #[.int .i64 a, .int .i64 b, .int .i64 c, .int .u64 d]) (.agg #[.int .i64 a, .int .i64 b, .int .i64 c, .int .u64 d])).run Try.prog w = .ok (.bool false) w :=
  run_neq_same w 34 (by kernel_rfl) (by kernel_rfl) (by kernel_rfl)
theorem exec_cmpS {P : Program} {o : Oper} {a : Act} {w : World} {op : BinOp} {t u : TypeId} {x y : Operand} {xs ys : Array Value} {v : Value} (ho : o.op = .binOp op t x y u) (hm : P.eqGuardType P.depth t = false) (hx : a.eval x = .agg xs) (hy : a.eval y = .agg ys) (h : (binOp op t (.agg xs) (.agg ys)).run P w = .ok v w) :
    (execOp a.eval o).run P w = .ok (.value v) w := by
  have hg := run_eqGuard_agg (P := P) (w := w) op t x y xs ys hm
  unfold execOp
  simp only [ho, hx, hy, Sem.run_bind, Sem.run_pure, Result.andThen_ok, hg, h]
set_option maxHeartbeats 4000000 in
theorem sameWS_c (A A' : Option Addr) (c c' : Nat) (l : List Wr) (w : World) (hl : l.length ≤ 100000) (hr : Rd w w.heap.size A (cellsW l)) (hr' : Rd w w.heap.size A' (cellsW l)) :
    Calls Try.prog 14 #[.slice A l.length c, .slice A' l.length c'] w fun e w' => e = .returned (.bool true) ∧ BW w w' := by
  have HR := Lib.hid hr
  have HR' := Lib.hid hr'
  have HB0 : Hid (BW w w) := Below.refl _ _
  clear hr hr'
  go_enter Try.func14, Try.ntmps14
  go_wp2
  go_loopw [5] (fun i wx => ∃ k : Nat, k ≤ l.length ∧ i = .int .i64 (k : Int) ∧ Hid (BW w wx)) (fun i _ => l.length - (intOf i).toNat)
  case atStart => exact ⟨0, by omega, rfl, HB0.out⟩
  case round =>
    obtain ⟨k, hk0, rfl, HBW⟩ := hrel
    clear HB0
    by_cases hk : k < l.length
    · have hk' : (k : Int) < (l.length : Int) := by omega
      obtain ⟨b, off, rfl, hbl, hcell⟩ := wr_cellS HR.out (by omega)
      obtain ⟨b', off', rfl, hbl', hcell'⟩ := wr_cellS HR'.out (by omega)
      have hat := hcell k hk
      have hat' := hcell' k hk
      obtain ⟨⟨yi, ya, yz, yd⟩, hx⟩ : ∃ x, l[k] = x := ⟨_, rfl⟩
      rw [hx] at hat hat'
      simp only [wrCells] at hat hat'
      have HFC := Lib.hid (fun (x : World) (hb : BW w x) t v hv => (Below.cell hb (p := ⟨b, off + k * 4 + t, none⟩) hbl).trans (hat t v hv))
      have HFD := Lib.hid (fun (x : World) (hb : BW w x) t v hv => (Below.cell hb (p := ⟨b', off' + k * 4 + t, none⟩) hbl').trans (hat' t v hv))
      clear hcell hcell' hat hat' hx
      go_upto_region 6 with (fail)
      have HS := BW.on HBW.out (Below.drew (Below.refl _ _))
      clear HBW
      refine wp_region_held (S := fun x => BW w x) (by kernel_rfl) ?_
      change wpAnyH _ _ _ _ _ _ _ _ (World.drew _)
      generalize World.drew _ = w8 at *
      refine hk_val (i := 0) (oi := ⟨some 17, .move _, _, _, _, _⟩) (.slice (some ⟨b, off, none⟩) l.length c) rfl (by kernel_rfl) (by kernel_rfl) (by kernel_rfl) (fun _ _ _ h => h) (by kernel_rfl) (fun _ _ => rfl) HS ?_
      simp only [Act.put, List.setIfInBounds_toArray, List.set_cons_zero, List.set_cons_succ]
      refine hk_val (i := 1) (oi := ⟨some 18, .move _, _, _, _, _⟩) (.int .i64 (k : Int)) rfl (by kernel_rfl) (by kernel_rfl) (by kernel_rfl) (fun _ _ _ h => h) (by kernel_rfl) (fun _ _ => rfl) HS ?_
      simp only [Act.put, List.setIfInBounds_toArray, List.set_cons_zero, List.set_cons_succ]
      refine hk_val (i := 2) (oi := ⟨some 19, .indexAddr _ _ _, _, _, _, _⟩) (.pointer (some ⟨b, off + k * 4, none⟩)) rfl (by kernel_rfl) (by kernel_rfl) (by kernel_rfl) (fun _ _ _ h => h) (by kernel_rfl) (fun _ _ => Hz.ex_indexz rfl rfl rfl rfl hk Try.underlying39 (by kernel_rfl)) HS ?_
      simp only [Act.put, List.setIfInBounds_toArray, List.set_cons_zero, List.set_cons_succ]
      refine hk_val (i := 3) (oi := ⟨some 20, .load _ _, _, _, _, _⟩) (.agg #[.int .i64 yi, .int .i64 ya, .int .i64 yz, .int .u64 yd]) rfl (by kernel_rfl) (by kernel_rfl) (by kernel_rfl) (fun _ _ _ h => h) (by kernel_rfl) (fun x hx => Hz.ex_load_cells [.int .i64 yi, .int .i64 ya, .int .i64 yz, .int .u64 yd] rfl rfl (HFC.out x hx) Try.underlying34 rfl (by kernel_rfl)) HS ?_
      simp only [Act.put, List.setIfInBounds_toArray, List.set_cons_zero, List.set_cons_succ]
      refine hk_val (i := 4) (oi := ⟨some 21, .move _, _, _, _, _⟩) (.slice (some ⟨b', off', none⟩) l.length c') rfl (by kernel_rfl) (by kernel_rfl) (by kernel_rfl) (fun _ _ _ h => h) (by kernel_rfl) (fun _ _ => rfl) HS ?_
      simp only [Act.put, List.setIfInBounds_toArray, List.set_cons_zero, List.set_cons_succ]
      refine hk_val (i := 5) (oi := ⟨some 22, .move _, _, _, _, _⟩) (.int .i64 (k : Int)) rfl (by kernel_rfl) (by kernel_rfl) (by kernel_rfl) (fun _ _ _ h => h) (by kernel_rfl) (fun _ _ => rfl) HS ?_
      simp only [Act.put, List.setIfInBounds_toArray, List.set_cons_zero, List.set_cons_succ]
      refine hk_val (i := 6) (oi := ⟨some 23, .indexAddr _ _ _, _, _, _, _⟩) (.pointer (some ⟨b', off' + k * 4, none⟩)) rfl (by kernel_rfl) (by kernel_rfl) (by kernel_rfl) (fun _ _ _ h => h) (by kernel_rfl) (fun _ _ => Hz.ex_indexz rfl rfl rfl rfl hk Try.underlying39 (by kernel_rfl)) HS ?_
      simp only [Act.put, List.setIfInBounds_toArray, List.set_cons_zero, List.set_cons_succ]
      refine hk_val (i := 7) (oi := ⟨some 24, .load _ _, _, _, _, _⟩) (.agg #[.int .i64 yi, .int .i64 ya, .int .i64 yz, .int .u64 yd]) rfl (by kernel_rfl) (by kernel_rfl) (by kernel_rfl) (fun _ _ _ h => h) (by kernel_rfl) (fun x hx => Hz.ex_load_cells [.int .i64 yi, .int .i64 ya, .int .i64 yz, .int .u64 yd] rfl rfl (HFD.out x hx) Try.underlying34 rfl (by kernel_rfl)) HS ?_
      simp only [Act.put, List.setIfInBounds_toArray, List.set_cons_zero, List.set_cons_succ]
      refine hk_val (i := 8) (oi := ⟨some 25, .binOp _ _ _ _ _, _, _, _, _⟩) (.bool false) rfl (by kernel_rfl) (by kernel_rfl) (by kernel_rfl) (fun _ _ _ h => h) (by kernel_rfl) (fun x _ => exec_cmpS rfl (by kernel_rfl) rfl rfl (run_neq_wrS _ _ _ _ x)) HS ?_
      simp only [Act.put, List.setIfInBounds_toArray, List.set_cons_zero, List.set_cons_succ]
      refine wpAnyH_done (by kernel_rfl) ?_ _
      go_wp2
      go_roundw
      case rel => exact ⟨k + 1, by omega, by first | rfl | go_num, HS⟩
      case measure => simp [intOf]; omega
    · obtain rfl : k = l.length := by omega
      go_wp2
      go_ret
      exact ⟨rfl, HBW.out⟩
theorem sameWS_at (A A' : Option Addr) (c c' n : Nat) (l : List Wr) (w : World) (hn : l.length = n) (hl : n ≤ 100000) (hr : Rd w w.heap.size A (cellsW l)) (hr' : Rd w w.heap.size A' (cellsW l)) :
    Calls Try.prog 14 #[.slice A n c, .slice A' n c'] w fun e w' => e = .returned (.bool true) ∧ BW w w' := by
  subst hn
  exact sameWS_c A A' c c' l w hl hr hr'
/-- What 'same' holds while all but the stores is compared. -/
structure SA (W w : World) (R : List Nat) (g : Nat) (s : Bst) (D : Dbf) (q : Nat) (vl : Value) (v1 : Value) (vs : List Value) (B : Nat) (v2 : Value) (us : List Value) (x : World) : Prop where
  ox : OX W R g s x
  d : DAt D q vl x
  low : BW w x
  len1 : vs.length = s.es.length
  r1 : x.ownsRow w.heap.size 39 1 v1 vs.length vs
  e1 : ∀ i (h : i < vs.length) (h2 : i < s.es.length), x.ownsRow w.heap.size 34 4 vs[i] s.es[i].st.length (cellsW s.es[i].st)
  r2 : RwAt B (s.es.map entG) v2 us x
theorem SA.on {W w : World} {R : List Nat} {g : Nat} {s : Bst} {D : Dbf} {q : Nat} {vl v1 : Value} {vs : List Value} {B : Nat} {v2 : Value} {us : List Value} {x y : World} (h : SA W w R g s D q vl v1 vs B v2 us x) (k : BW x y) : SA W w R g s D q vl v1 vs B v2 us y :=
  ⟨h.ox.on k, h.d.on k, h.low.on k, h.len1, (Fr.of [] k).row h.r1 (by simp), fun i h1 h2 => (Fr.of [] k).row (h.e1 i h1 h2) (by simp), h.r2.on k⟩
/-- .. and while the stores are. -/
structure SB2 (w : World) (s : Bst) (v1 : Value) (vs : List Value) (B B2 : Nat) (v2 : Value) (us : List Value) (x : World) : Prop where
  low : BW w x
  len1 : vs.length = s.es.length
  r1 : x.ownsRow w.heap.size 39 1 v1 vs.length vs
  e1 : ∀ i (h : i < vs.length) (h2 : i < s.es.length), x.ownsRow w.heap.size 34 4 vs[i] s.es[i].st.length (cellsW s.es[i].st) ∧ ∀ b, vs[i].ownBlock = some b → b < B2
  r2 : RwAt B (s.es.map entG) v2 us x
  ge : w.heap.size ≤ B2
  le : B2 ≤ x.heap.size
theorem SB2.on {w : World} {s : Bst} {v1 : Value} {vs : List Value} {B B2 : Nat} {v2 : Value} {us : List Value} {x y : World} (h : SB2 w s v1 vs B B2 v2 us x) (k : BW x y) : SB2 w s v1 vs B B2 v2 us y :=
  ⟨h.low.on k, h.len1, (Fr.of [] k).row h.r1 (by simp), fun i h1 h2 => ⟨(Fr.of [] k).row (h.e1 i h1 h2).1 (by simp), (h.e1 i h1 h2).2⟩, h.r2.on k, h.ge, Nat.le_trans h.le (Below.size k)⟩
theorem SB2.grown {w : World} {s : Bst} {v1 : Value} {vs : List Value} {B B2 : Nat} {v2 : Value} {us : List Value} {x y : World} {out : Value} {n : Nat} {xs : List Value} (h : SB2 w s v1 vs B B2 v2 us x) (ho : x.ownsRow B2 34 4 out n xs) (hg : x.grownBy y out.ownBlock) : SB2 w s v1 vs B B2 v2 us y := by
  have hlow : ∀ b, out.ownBlock = some b → B2 ≤ b := fun b hb => (ho.lt b hb).1
  have hge := h.ge
  refine ⟨Below.grown h.low hg (Below.size h.low) (fun b hb => by have := hlow b hb; omega), h.len1, h.r1.kept hg (rows_apart h.r1 ho (by decide)), fun i h1 h2 => ⟨(h.e1 i h1 h2).1.kept hg ?_, (h.e1 i h1 h2).2⟩, ?_, h.ge, Nat.le_trans h.le hg.size⟩
  · cases hv : vs[i].ownBlock with
    | none => exact .inl rfl
    | some b =>
      right
      intro e
      have h3 := (h.e1 i h1 h2).2 b hv
      have h4 := hlow b e.symm
      omega
  · exact ⟨h.r2.len, h.r2.row.kept hg (rows_apart h.r2.row ho (by decide)), fun i h1 h2 => (h.r2.each i h1 h2).kept hg (rows_apart (h.r2.each i h1 h2) ho (by decide)), h.r2.apart⟩
set_option maxHeartbeats 16000000 in
theorem same_c {W w : World} {R : List Nat} {g q : Nat} {s : Bst} {D : Dbf} {vl : Value} (ho : OX W R g s w) (hd : DAt D q vl w) (ht : TI s D) (hl : D.l.length ≤ 1000) :
    Calls Try.prog 21 #[.pointer (some ⟨g, 0, none⟩), .pointer (some ⟨q, 0, none⟩)] w fun e w' => e = .returned (.bool true) ∧ BW w w' := by
  have hok := ho.ok
  obtain ⟨A, c, rfl⟩ := own_shape hd.row
  obtain ⟨iW, hiW, hzW, hsW, hbW⟩ := inf_parts (P := Try.prog) (e := 34) (z := .agg (wrCells ⟨0, 0, 0, 0⟩)) (n := 4) (b := 32) (by kernel_rfl)
  have HE1 := Lib.hid (fun X (h : OX W R g s X) => h.entries)
  have HE2 := Lib.hid (fun X (hX : DAt D q (.slice A D.l.length c) X) => (show Calls Try.prog 33 #[.pointer (some ⟨q, 0, none⟩)] X fun e w' => ∃ v us, e = .returned v ∧ RwAt X.heap.size (s.es.map entG) v us w' ∧ BW X w' from by
    have := rentries_c hX hl (fun x hx => (ht.ok hok hx).1)
    rw [ht.grp] at this
    exact this))
  have HEM := Lib.hid (fun X (h : OX W R g s X) => h.empty)
  have HEL := Lib.hid (fun X (h : OX W R g s X) => h.elder)
  have HEL2 := Lib.hid (fun X (hX : DAt D q (.slice A D.l.length c) X) => relder_c hX (by omega) (eldB s) (ht.elder hok))
  have HRD := Lib.hid (fun X (h : OX W R g s X) => h.ready)
  have HRD2 := Lib.hid (fun X (hX : DAt D q (.slice A D.l.length c) X) => rready_c hX ht hok hl)
  have HEMP : Hid (decide (D.l.length = 0) = decide (s.es.length = 0)) := by
    show _ = _
    rw [Bool.eq_iff_iff, decide_eq_true_eq, decide_eq_true_eq]
    exact ht.none hok
  have HENT := Lib.hid (fun B m cv Av us X (hX : RwAt B (s.es.map entG) (.slice Av m cv) us X) k hk => hX.ent hok (k := k) hk)
  have HSI := Lib.hid (fun (l : List Int) n X (A A' : Option Addr) (c c' : Nat) (hn : l.length = n) (h1 : n ≤ 1000) (hr : Rd X X.heap.size A (cellsI l)) (hr' : Rd X X.heap.size A' (cellsI l)) => (show Calls Try.prog 29 #[.slice A n c, .slice A' n c'] X fun e w' => e = .returned (.bool true) ∧ BW X w' from by
    have := sameInts_at A A' c c' l l n X hn hn (by omega) hr hr'
    exact this.mono fun _ _ h => ⟨by rw [h.1]; simp, h.2⟩))
  have HRL := Lib.hid (rdyI_len s s.es.length)
  have hl4 := hok.len
  have H0 : Hid (OX W R g s w ∧ DAt D q (.slice A D.l.length c) w) := ⟨ho, hd⟩
  clear ho hd ht hok
  generalize eldB s = be at *
  go_enter Try.func21, Try.ntmps21
  go_wp2_with (first
    | (go_at_call 23; refine (HE1.out _ H0.out.1).mono ?_; rintro e w1 ⟨v1, rfl, ⟨vs, hv1, hv2⟩, hb1⟩; obtain ⟨A1, c1, rfl⟩ := own_shape hv1; have hvl : vs.length = s.es.length := by { have h9 := hv1.1; rw [List.length_map] at h9; omega }; have HV1 := Lib.hid hv1; have HV2 := Lib.hid hv2; have HB1 := Lib.hid hb1; have hq1 : (s.es.map Ent.st).length = s.es.length := List.length_map ..; rw [hq1] at HV1 ⊢; have HVL := Lib.hid hvl; clear hv1 hv2 hb1 hvl hq1)
    | (go_at_call 33; refine (HE2.out _ (H0.out.2.on HB1.out)).mono ?_; rintro e w2 ⟨v2, us, rfl, hrw0, hb2⟩; obtain ⟨B, hrw⟩ : ∃ B, RwAt B (s.es.map entG) v2 us w2 := ⟨_, hrw0⟩; have hul : us.length = s.es.length := by { rw [hrw.len, List.length_map] }; obtain ⟨A2, c2, rfl⟩ := own_shape hrw.row; rw [hul] at hrw ⊢; have HRW := Lib.hid hrw; have HB2 := Lib.hid hb2; clear hrw0 hrw hb2 hul))
  have HSA : Hid (SA W w R g s D q (.slice A D.l.length c) (.slice A1 s.es.length c1) vs B (.slice A2 s.es.length c2) us w2) := by
    have hb := BW.on HB1.out HB2.out
    have h9 := HV1.out
    rw [← HVL.out] at h9
    refine ⟨H0.out.1.on hb, H0.out.2.on hb, hb, HVL.out, ?_, fun i h1 h2 => ?_, HRW.out⟩
    · have := (Fr.of [] HB2.out).row h9 (by simp)
      rw [HVL.out] at this ⊢
      exact this
    · obtain ⟨u, e1, e2⟩ := HV2.out i (by rw [List.length_map]; exact h2)
      rw [List.getElem?_eq_getElem h1] at e1
      cases e1
      have := (Fr.of [] HB2.out).row e2 (by simp)
      rw [List.getElem_map] at this
      exact this
  clear HV1 HV2 HB1 HB2 HRW HVL HE1 HE2 H0
  obtain ⟨be0, hbe0⟩ : ∃ be0, decide (s.es.length = 0) = be0 := ⟨_, rfl⟩
  rw [hbe0] at HEMP
  have HEM2 := Lib.hid (fun X h => hbe0 ▸ HEM.out X h)
  have HEMQ : Hid (decide ((D.l.length : Int) = 0) = be0) := by
    show _ = _
    rw [← HEMP.out, Bool.eq_iff_iff, decide_eq_true_eq, decide_eq_true_eq]
    omega
  clear hbe0 HEM HEMP
  go_cut [44] from 14 to 44 (fun b wx => b = .bool false ∧ Hid (SA W w R g s D q (.slice A D.l.length c) (.slice A1 s.es.length c1) vs B (.slice A2 s.es.length c2) us wx))
  case first =>
    refine wp_region_held (S := SA W w R g s D q (.slice A D.l.length c) (.slice A1 s.es.length c1) vs B (.slice A2 s.es.length c2) us) (by kernel_rfl) ?_
    change wpAnyH _ _ _ _ _ _ _ _ (World.drew _)
    have HS := HSA.out.on (Below.drew (Below.refl _ _))
    clear HSA
    generalize World.drew _ = w3 at *
    refine hk_val (i := 0) (oi := ⟨some 14, .move _, _, _, _, _⟩) (.slice A1 s.es.length c1) rfl (by kernel_rfl) (by kernel_rfl) (by kernel_rfl) (fun _ _ _ h => h) (by kernel_rfl) (fun _ _ => rfl) HS ?_
    simp only [Act.put, List.setIfInBounds_toArray, List.set_cons_zero, List.set_cons_succ]
    refine hk_val (i := 1) (oi := ⟨some 15, .call _, _, _, _, _⟩) (.int .i64 (s.es.length : Int)) rfl (by kernel_rfl) (by kernel_rfl) (by kernel_rfl) (fun _ _ _ h => h) (by kernel_rfl) (fun _ _ => by kernel_rfl) HS ?_
    simp only [Act.put, List.setIfInBounds_toArray, List.set_cons_zero, List.set_cons_succ]
    refine hk_val (i := 2) (oi := ⟨some 16, .move _, _, _, _, _⟩) (.slice A2 s.es.length c2) rfl (by kernel_rfl) (by kernel_rfl) (by kernel_rfl) (fun _ _ _ h => h) (by kernel_rfl) (fun _ _ => rfl) HS ?_
    simp only [Act.put, List.setIfInBounds_toArray, List.set_cons_zero, List.set_cons_succ]
    refine hk_val (i := 3) (oi := ⟨some 17, .call _, _, _, _, _⟩) (.int .i64 (s.es.length : Int)) rfl (by kernel_rfl) (by kernel_rfl) (by kernel_rfl) (fun _ _ _ h => h) (by kernel_rfl) (fun _ _ => by kernel_rfl) HS ?_
    simp only [Act.put, List.setIfInBounds_toArray, List.set_cons_zero, List.set_cons_succ]
    refine hk_val (i := 4) (oi := ⟨some 18, .binOp _ _ _ _ _, _, _, _, _⟩) (.bool false) rfl (by kernel_rfl) (by kernel_rfl) (by kernel_rfl) (fun _ _ _ h => h) (by kernel_rfl) (fun _ _ => Hz.ex_neK rfl rfl rfl (by simp)) HS ?_
    simp only [Act.put, List.setIfInBounds_toArray, List.set_cons_zero, List.set_cons_succ]
    refine hk_val (i := 5) (oi := ⟨some 19, .move _, _, _, _, _⟩) (.bool false) rfl (by kernel_rfl) (by kernel_rfl) (by kernel_rfl) (fun _ _ _ h => h) (by kernel_rfl) (fun _ _ => rfl) HS ?_
    simp only [Act.put, List.setIfInBounds_toArray, List.set_cons_zero, List.set_cons_succ]
    refine hk_val (i := 6) (oi := ⟨some 20, .move _, _, _, _, _⟩) (.pointer (some ⟨g, 0, none⟩)) rfl (by kernel_rfl) (by kernel_rfl) (by kernel_rfl) (fun _ _ _ h => h) (by kernel_rfl) (fun _ _ => rfl) HS ?_
    simp only [Act.put, List.setIfInBounds_toArray, List.set_cons_zero, List.set_cons_succ]
    refine hk_val (i := 8) (oi := ⟨some 22, .move _, _, _, _, _⟩) (.pointer (some ⟨q, 0, none⟩)) rfl (by kernel_rfl) (by kernel_rfl) (by kernel_rfl) (fun _ _ _ h => h) (by kernel_rfl) (fun _ _ => rfl) HS ?_
    simp only [Act.put, List.setIfInBounds_toArray, List.set_cons_zero, List.set_cons_succ]
    refine hk_val (i := 9) (oi := ⟨some 23, .nilCheck _, _, _, _, _⟩) (.pointer (some ⟨q, 0, none⟩)) rfl (by kernel_rfl) (by kernel_rfl) (by kernel_rfl) (fun _ _ _ h => h) (by kernel_rfl) (fun _ _ => rfl) HS ?_
    simp only [Act.put, List.setIfInBounds_toArray, List.set_cons_zero, List.set_cons_succ]
    refine hk_val (i := 10) (oi := ⟨some 24, .fieldAddr _ _ _, _, _, _, _⟩) (.pointer (some ⟨q, 0, none⟩)) rfl (by kernel_rfl) (by kernel_rfl) (by kernel_rfl) (fun _ _ _ h => h) (by kernel_rfl) (fun _ _ => by kernel_rfl) HS ?_
    simp only [Act.put, List.setIfInBounds_toArray, List.set_cons_zero, List.set_cons_succ]
    refine hk_val (i := 11) (oi := ⟨some 25, .load _ _, _, _, _, _⟩) (.slice A D.l.length c) rfl (by kernel_rfl) (by kernel_rfl) (by kernel_rfl) (fun _ _ _ h => h) (by kernel_rfl) (fun x hx => ex_load rfl rfl (hx.d.head.cell 0) (by kernel_rfl)) HS ?_
    simp only [Act.put, List.setIfInBounds_toArray, List.set_cons_zero, List.set_cons_succ]
    refine hk_val (i := 12) (oi := ⟨some 26, .call _, _, _, _, _⟩) (.int .i64 (D.l.length : Int)) rfl (by kernel_rfl) (by kernel_rfl) (by kernel_rfl) (fun _ _ _ h => h) (by kernel_rfl) (fun _ _ => by kernel_rfl) HS ?_
    simp only [Act.put, List.setIfInBounds_toArray, List.set_cons_zero, List.set_cons_succ]
    refine hk_val (i := 13) (oi := ⟨some 27, .binOp _ _ _ _ _, _, _, _, _⟩) (.bool be0) rfl (by kernel_rfl) (by kernel_rfl) (by kernel_rfl) (fun _ _ _ h => h) (by kernel_rfl) (fun _ _ => Hz.ex_eqK rfl rfl rfl HEMQ.out) HS ?_
    simp only [Act.put, List.setIfInBounds_toArray, List.set_cons_zero, List.set_cons_succ]
    refine hk_call (i := 7) (oi := ⟨some 21, .call _, _, _, _, _⟩) (by kernel_rfl) rfl (by kernel_rfl) (by first | rfl | kernel_rfl) (HEM2.out _ HS.ox) ?_
    rintro e w4 ⟨rfl, rfl⟩
    have HS4 := HS
    refine ⟨_, rfl, HS4, ?_⟩
    simp only [Act.put, List.setIfInBounds_toArray, List.set_cons_zero, List.set_cons_succ]
    refine hk_val (i := 14) (oi := ⟨some 28, .binOp _ _ _ _ _, _, _, _, _⟩) (.bool false) rfl (by kernel_rfl) (by kernel_rfl) (by kernel_rfl) (fun _ _ _ h => h) (by kernel_rfl) (fun _ _ => by cases be0 <;> kernel_rfl) HS4 ?_
    simp only [Act.put, List.setIfInBounds_toArray, List.set_cons_zero, List.set_cons_succ]
    refine hk_val (i := 15) (oi := ⟨some 29, .pick _ _ _, _, _, _, _⟩) (.bool false) rfl (by kernel_rfl) (by kernel_rfl) (by kernel_rfl) (fun _ _ _ h => h) (by kernel_rfl) (fun _ _ => rfl) HS4 ?_
    simp only [Act.put, List.setIfInBounds_toArray, List.set_cons_zero, List.set_cons_succ]
    refine hk_val (i := 16) (oi := ⟨some 30, .move _, _, _, _, _⟩) (.bool false) rfl (by kernel_rfl) (by kernel_rfl) (by kernel_rfl) (fun _ _ _ h => h) (by kernel_rfl) (fun _ _ => rfl) HS4 ?_
    simp only [Act.put, List.setIfInBounds_toArray, List.set_cons_zero, List.set_cons_succ]
    refine hk_val (i := 17) (oi := ⟨some 31, .move _, _, _, _, _⟩) (.pointer (some ⟨g, 0, none⟩)) rfl (by kernel_rfl) (by kernel_rfl) (by kernel_rfl) (fun _ _ _ h => h) (by kernel_rfl) (fun _ _ => rfl) HS4 ?_
    simp only [Act.put, List.setIfInBounds_toArray, List.set_cons_zero, List.set_cons_succ]
    refine hk_val (i := 19) (oi := ⟨some 33, .move _, _, _, _, _⟩) (.pointer (some ⟨q, 0, none⟩)) rfl (by kernel_rfl) (by kernel_rfl) (by kernel_rfl) (fun _ _ _ h => h) (by kernel_rfl) (fun _ _ => rfl) HS4 ?_
    simp only [Act.put, List.setIfInBounds_toArray, List.set_cons_zero, List.set_cons_succ]
    refine hk_call (i := 18) (oi := ⟨some 32, .call _, _, _, _, _⟩) (by kernel_rfl) rfl (by kernel_rfl) (by first | rfl | kernel_rfl) (HEL.out _ HS4.ox) ?_
    rintro e w5 ⟨rfl, hb5⟩
    have HS5 := HS4.on hb5
    refine ⟨_, rfl, HS5, ?_⟩
    simp only [Act.put, List.setIfInBounds_toArray, List.set_cons_zero, List.set_cons_succ]
    refine hk_call (i := 20) (oi := ⟨some 34, .call _, _, _, _, _⟩) (by kernel_rfl) rfl (by kernel_rfl) (by first | rfl | kernel_rfl) (HEL2.out _ HS5.d) ?_
    rintro e w6 ⟨rfl, hb6⟩
    have HS6 := HS5.on hb6
    refine ⟨_, rfl, HS6, ?_⟩
    simp only [Act.put, List.setIfInBounds_toArray, List.set_cons_zero, List.set_cons_succ]
    refine hk_val (i := 21) (oi := ⟨some 35, .binOp _ _ _ _ _, _, _, _, _⟩) (.bool false) rfl (by kernel_rfl) (by kernel_rfl) (by kernel_rfl) (fun _ _ _ h => h) (by kernel_rfl) (fun _ _ => by cases be <;> kernel_rfl) HS6 ?_
    simp only [Act.put, List.setIfInBounds_toArray, List.set_cons_zero, List.set_cons_succ]
    refine hk_val (i := 22) (oi := ⟨some 36, .pick _ _ _, _, _, _, _⟩) (.bool false) rfl (by kernel_rfl) (by kernel_rfl) (by kernel_rfl) (fun _ _ _ h => h) (by kernel_rfl) (fun _ _ => rfl) HS6 ?_
    simp only [Act.put, List.setIfInBounds_toArray, List.set_cons_zero, List.set_cons_succ]
    refine hk_val (i := 23) (oi := ⟨some 37, .move _, _, _, _, _⟩) (.bool false) rfl (by kernel_rfl) (by kernel_rfl) (by kernel_rfl) (fun _ _ _ h => h) (by kernel_rfl) (fun _ _ => rfl) HS6 ?_
    simp only [Act.put, List.setIfInBounds_toArray, List.set_cons_zero, List.set_cons_succ]
    refine hk_val (i := 24) (oi := ⟨some 38, .move _, _, _, _, _⟩) (.pointer (some ⟨g, 0, none⟩)) rfl (by kernel_rfl) (by kernel_rfl) (by kernel_rfl) (fun _ _ _ h => h) (by kernel_rfl) (fun _ _ => rfl) HS6 ?_
    simp only [Act.put, List.setIfInBounds_toArray, List.set_cons_zero, List.set_cons_succ]
    refine hk_val (i := 26) (oi := ⟨some 40, .move _, _, _, _, _⟩) (.pointer (some ⟨q, 0, none⟩)) rfl (by kernel_rfl) (by kernel_rfl) (by kernel_rfl) (fun _ _ _ h => h) (by kernel_rfl) (fun _ _ => rfl) HS6 ?_
    simp only [Act.put, List.setIfInBounds_toArray, List.set_cons_zero, List.set_cons_succ]
    refine hk_call (i := 25) (oi := ⟨some 39, .call _, _, _, _, _⟩) (by kernel_rfl) rfl (by kernel_rfl) (by first | rfl | kernel_rfl) (HRD.out _ HS6.ox) ?_
    rintro e w7 ⟨v7, rfl, ho7, hb7⟩
    obtain ⟨A7, c7, rfl⟩ := own_shape ho7
    have HS7 := HS6.on hb7
    refine ⟨_, rfl, HS7, ?_⟩
    simp only [Act.put, List.setIfInBounds_toArray, List.set_cons_zero, List.set_cons_succ]
    refine hk_call (i := 27) (oi := ⟨some 41, .call _, _, _, _, _⟩) (by kernel_rfl) rfl (by kernel_rfl) (by first | rfl | kernel_rfl) (HRD2.out _ HS7.d) ?_
    rintro e w8 ⟨v8, rfl, ho8, hb8⟩
    obtain ⟨A8, c8, rfl⟩ := own_shape ho8
    have HS8 := HS7.on hb8
    refine ⟨_, rfl, HS8, ?_⟩
    simp only [Act.put, List.setIfInBounds_toArray, List.set_cons_zero, List.set_cons_succ]
    refine hk_call (i := 28) (oi := ⟨some 42, .call _, _, _, _, _⟩) (by kernel_rfl) rfl (by kernel_rfl) (by first | rfl | kernel_rfl) (HSI.out (rdyI s s.es.length) _ _ A7 A8 c7 c8 rfl (by have := HRL.out; omega) (rd_own ((Fr.of [] hb8).row ho7 (by simp))) (rd_own ho8)) ?_
    rintro e w9 ⟨rfl, hb9⟩
    have HS9 := HS8.on hb9
    refine ⟨_, rfl, HS9, ?_⟩
    simp only [Act.put, List.setIfInBounds_toArray, List.set_cons_zero, List.set_cons_succ]
    refine hk_val (i := 29) (oi := ⟨some 43, .unOp _ _ _, _, _, _, _⟩) (.bool false) rfl (by kernel_rfl) (by kernel_rfl) (by kernel_rfl) (fun _ _ _ h => h) (by kernel_rfl) (fun _ _ => rfl) HS9 ?_
    simp only [Act.put, List.setIfInBounds_toArray, List.set_cons_zero, List.set_cons_succ]
    refine hk_val (i := 30) (oi := ⟨some 44, .pick _ _ _, _, _, _, _⟩) (.bool false) rfl (by kernel_rfl) (by kernel_rfl) (by kernel_rfl) (fun _ _ _ h => h) (by kernel_rfl) (fun _ _ => rfl) HS9 ?_
    simp only [Act.put, List.setIfInBounds_toArray, List.set_cons_zero, List.set_cons_succ]
    refine wpAnyH_done (by kernel_rfl) ?_ _
    go_wp2
    go_meet
    case rel => exact ⟨rfl, HS9⟩
  case rest =>
    obtain ⟨rfl, HSC⟩ := hcut
    clear HSA HEL HEL2 HRD HRD2 HSI HRL HEMQ HEM2
    obtain ⟨B2, hB2⟩ : ∃ B2, (World.heap wc).size = B2 := ⟨_, rfl⟩
    have HY0 : Hid (SB2 w s (.slice A1 s.es.length c1) vs B B2 (.slice A2 s.es.length c2) us wc) := ⟨HSC.out.low, HSC.out.len1, HSC.out.r1, fun i h1 h2 => ⟨HSC.out.e1 i h1 h2, fun b hb => by rw [← hB2]; exact ((HSC.out.e1 i h1 h2).lt b hb).2⟩, HSC.out.r2, by rw [← hB2]; exact Below.size HSC.out.low, by rw [hB2]; exact Nat.le_refl _⟩
    clear hB2 HSC
    go_wp2
    go_loopw [7, 8, 9] (fun i _ _ wx => ∃ k : Nat, k ≤ s.es.length ∧ i = .int .i64 (k : Int) ∧ Hid (SB2 w s (.slice A1 s.es.length c1) vs B B2 (.slice A2 s.es.length c2) us wx)) (fun i _ _ _ => s.es.length - (intOf i).toNat)
    case atStart => exact ⟨0, by omega, rfl, HY0.out⟩
    case round =>
      obtain ⟨k, hk, rfl, HY⟩ := hrel
      clear HY0
      by_cases hlt : k < s.es.length
      · have hltI : (k : Int) < (s.es.length : Int) := by omega
        have hku : k < vs.length := by rw [HY.out.len1]; exact hlt
        obtain ⟨gv, gk, ck, rfl, _, hst0, hst8, hcl⟩ := HENT.out _ _ _ _ _ _ HY.out.r2 k hlt
        have HCL := Lib.hid hcl
        obtain ⟨A5, c5, hu5⟩ := own_shape (HY.out.e1 k hku hlt).1
        obtain ⟨g1, rfl⟩ : ∃ g1, A1 = some ⟨g1, 0, none⟩ := by
          rcases HY.out.r1.2 with ⟨e, e2⟩ | ⟨b, _, _, e, _⟩
          · have := HY.out.len1; omega
          · injection e with e1; exact ⟨b, e1⟩
        have HC1 := Lib.hid (fun X (hX : SB2 w s (.slice (some ⟨g1, 0, none⟩) s.es.length c1) vs B B2 (.slice (some ⟨gv, 0, none⟩) s.es.length c2) us X) => (show X.cell? ⟨g1, k, none⟩ = some (.slice A5 s.es[k].st.length c5) ∧ X.ownsRow w.heap.size 34 4 (.slice A5 s.es[k].st.length c5) s.es[k].st.length (cellsW s.es[k].st) from by
          have h9 := hX.r1
          have hvl := hX.len1
          rw [← hvl] at h9
          refine ⟨?_, by rw [← hu5]; exact (hX.e1 k hku hlt).1⟩
          rw [h9.cellAt k (by omega), List.getElem?_eq_getElem hku, hu5]))
        have HEN : Hid (∀ j (hj : j < s.es[k].st.length), (entG s.es[k])[j]'(by rw [entG_len]; exact hj) = (s.es[k].st[j], s.es[k].ep)) := fun j hj => by unfold entG; rw [List.getElem_map]
        have HTKS := Lib.hid (fun j (hj : j < s.es[k].st.length) => take_succ_l hj)
        have HTKA : Hid (s.es[k].st.take s.es[k].st.length = s.es[k].st) := List.take_length
        clear hcl hu5
        have HROW5 := Lib.hid (fun X (hX : SB2 w s (.slice (some ⟨g1, 0, none⟩) s.es.length c1) vs B B2 (.slice (some ⟨gv, 0, none⟩) s.es.length c2) us X) j (hj : j < s.es[k].st.length) => (show ∀ t v, (stoC (s.es[k].st[j], s.es[k].ep)).toList[t]? = some v → X.cell? ⟨gk, j * 5 + t, none⟩ = some v from fun t v hv => by
          have hr := (HCL.out X hX.r2).2.1
          obtain ⟨g9, e9, h9⟩ := row_at5 hr (entG_len _).symm (i := j) (by rw [entG_len]; exact hj)
          cases e9
          rw [HEN.out j hj] at h9
          exact h9 t v hv))
        have HCK := Lib.hid (fun X hX => (HCL.out X hX).1)
        clear HCL HEN
        generalize s.es[k].ep = ek at *
        generalize s.es[k].st = st at *
        go_wp2
        go_loopw [8, 9] (fun o j wx => ∃ z : Nat, z ≤ st.length ∧ j = .int .i64 (z : Int) ∧ Hid (SB2 w s (.slice (some ⟨g1, 0, none⟩) s.es.length c1) vs B B2 (.slice (some ⟨gv, 0, none⟩) s.es.length c2) us wx) ∧ Hid (wx.ownsRow B2 34 4 o z (cellsW (st.take z)))) (fun _ j _ => st.length - (intOf j).toNat)
        case atStart => exact ⟨0, by omega, rfl, HY.out, World.ownsRow_nil _ _ _ _⟩
        case round =>
          obtain ⟨z, hz, rfl, HZ, HO⟩ := hrel
          clear HY
          have a1 := HCK.out _ HZ.out.r2
          by_cases hzl : z < st.length
          · have hzI : (z : Int) < (st.length : Int) := by omega
            have HST := Lib.hid (four5 (by have h8 := HROW5.out _ HZ.out z hzl; unfold stoC at h8; exact h8))
            have HTK := Lib.hid (HTKS.out z hzl)
            generalize st[z] = y at *
            obtain ⟨yi, ya, yz, yd⟩ := y
            simp only at HST
            have HA := Lib.hid (HZ.out.on (BW.new (Below.refl _ _) (.cells #[.int .i64 yi, .int .i64 ya, .int .i64 yz, .int .u64 yd] 34)))
            have HOA := Lib.hid (HO.out.alloc (.cells #[.int .i64 yi, .int .i64 ya, .int .i64 yz, .int .u64 yd] 34))
            clear HZ HO
            go_wp2_with (first
              | (with_reducible refine Hz.val_arm (o := ⟨some 68, .load _ _, _, _, _, _⟩) (by kernel_rfl) (Hz.ex_load_cells [.int .i64 yi, .int .i64 ya, .int .i64 yz, .int .u64 yd] rfl rfl HST.out Try.underlying34 rfl (by kernel_rfl)) ?_)
              | (at_builtin; refine wpList_append_own _ rfl _ _ 39 rfl B2 34 iW (.agg (wrCells ⟨0, 0, 0, 0⟩)) 4 32 Try.underlying39 hiW hzW hsW hbW rfl (by decide) _ _ _ rfl HOA.out ⟨_, 0, none⟩ 1 1 [.int .i64 yi, .int .i64 ya, .int .i64 yz, .int .u64 yd] rfl rfl ?_ ?_ ?_ ?_ ?_ ?_))
            · exact World.news_of_block (Blk.new _ _ _)
            · intro u hu; simp at hu; rcases hu with rfl | rfl | rfl | rfl <;> rfl
            · unfold maxLen; omega
            · omega
            · exact HA.out.le
            intro v' w6 ho6 hg6 _
            have HN6 := Lib.hid (HA.out.grown HOA.out hg6)
            have HO6 : Hid (w6.ownsRow B2 34 4 v' (z + 1) (cellsW (st.take (z + 1)))) := by
              show World.ownsRow _ _ _ _ _ _ _
              rw [HTK.out]
              unfold cellsW at ho6 ⊢
              rw [List.flatMap_append]
              simpa [wrCells] using ho6
            clear ho6 hg6 HA HOA
            go_wp2
            go_roundw
            case rel => exact ⟨z + 1, by omega, by first | rfl | go_num, HN6, HO6⟩
            case measure => simp [intOf]; omega
          · obtain rfl : z = st.length := by omega
            have HOO := Lib.hid (HTKA.out ▸ HO.out)
            obtain ⟨A8, c8, rfl⟩ := own_shape HO.out
            have b1 := (HC1.out _ HZ.out).1
            have HSW := Lib.hid (sameWS_at A5 A8 c5 c8 st.length st _ rfl (by omega) (rd_own (HC1.out _ HZ.out).2) (rd_own HOO.out))
            clear HO HOO
            go_wp2_with (first
              | (go_at_call 14; refine HSW.out.mono ?_; rintro e w7 ⟨rfl, hb7⟩; have HZ7 := Lib.hid (HZ.out.on hb7); clear hb7))
            go_roundw
            case rel => exact ⟨k + 1, by omega, by first | rfl | go_num, HZ7⟩
            case measure => simp [intOf]; omega
      · obtain rfl : k = s.es.length := by omega
        go_wp2
        go_ret
        exact ⟨rfl, HY.out.low⟩
end Go.Proofs.Ytcddgcchpmjdiaa
