/- The document's Drain. -/
import Derived.Test.YtcddgcchpmjdiaaWl
set_option maxRecDepth 100000
set_option linter.unusedVariables false
namespace Go.Proofs.Ytcddgcchpmjdiaa
open Go.RowKit

theorem own_mono {w : World} {base z n : Nat} {e : TypeId} {v : Value} {xs : List Value} (h : w.ownsRow base e z v n xs) : w.ownsRow 0 e z v n xs := by
  refine ⟨h.1, ?_⟩
  rcases h.2 with h0 | ⟨g, cap, cur, e1, _, e3⟩
  · exact .inl h0
  · exact .inr ⟨g, cap, cur, e1, Nat.zero_le _, e3⟩
def oK (D : Dbf) (κ : Int × Int) (k : Nat) : List Wr := (selL (D.l.take k) κ).map Prod.fst
def lK (D : Dbf) (κ : Int × Int) (k : Nat) : List Sto := (D.l.take k).filter fun x => !decide (keyS x = κ)
theorem oK_yes {D : Dbf} {κ : Int × Int} {k : Nat} (hk : k < D.l.length) (h : keyS D.l[k] = κ) : oK D κ (k + 1) = oK D κ k ++ [D.l[k].1] ∧ lK D κ (k + 1) = lK D κ k := by
  unfold oK lK selL
  rw [take_succ_l hk, List.filter_append, List.filter_append, List.map_append]
  simp [h]
theorem oK_no {D : Dbf} {κ : Int × Int} {k : Nat} (hk : k < D.l.length) (h : ¬ keyS D.l[k] = κ) : oK D κ (k + 1) = oK D κ k ∧ lK D κ (k + 1) = lK D κ k ++ [D.l[k]] := by
  unfold oK lK selL
  rw [take_succ_l hk, List.filter_append, List.filter_append, List.map_append]
  simp [h]
theorem oK_len (D : Dbf) (κ : Int × Int) (k : Nat) : (oK D κ k).length ≤ k ∧ (lK D κ k).length ≤ k := by
  unfold oK lK selL
  rw [List.length_map]
  have h : (D.l.take k).length ≤ k := by rw [List.length_take]; omega
  exact ⟨Nat.le_trans (List.length_filter_le _ _) h, Nat.le_trans (List.length_filter_le _ _) h⟩
/-- What Drain's second loop holds. -/
structure DR (D : Dbf) (q : Nat) (vl : Value) (w : World) (f : Sto) (p B : Nat) (κ : Int × Int) (out left : Value) (k : Nat) (X : World) : Prop where
  d : DAt D q vl X
  low : BW w X
  st : Blk (stoC f) 63 p X
  ge : w.heap.size ≤ p
  lt : p < B
  le : B ≤ X.heap.size
  ow : X.ownsRow w.heap.size 34 4 out (oK D κ k).length (cellsW (oK D κ k))
  lf : X.ownsRow B 63 5 left (lK D κ k).length (cellsS (lK D κ k))
theorem DR.on {D : Dbf} {q : Nat} {vl : Value} {w : World} {f : Sto} {p B : Nat} {κ : Int × Int} {out left : Value} {k : Nat} {X Z : World} (h : DR D q vl w f p B κ out left k X) (b : BW X Z) : DR D q vl w f p B κ out left k Z :=
  ⟨h.d.on b, h.low.on b, Blk.on h.st b, h.ge, h.lt, Nat.le_trans h.le (Below.size b), (Fr.of [] b).row h.ow (by simp), (Fr.of [] b).row h.lf (by simp)⟩
theorem DR.outs {D : Dbf} {q : Nat} {vl : Value} {w : World} {f : Sto} {p B : Nat} {κ : Int × Int} {out left v' : Value} {k : Nat} {X Z : World} (h : DR D q vl w f p B κ out left k X) (h0 : DAt D q vl w) (y : Wr) (hy : oK D κ (k + 1) = oK D κ k ++ [y] ∧ lK D κ (k + 1) = lK D κ k)
    (hg : X.grownBy Z out.ownBlock) (ho : Z.ownsRow w.heap.size 34 4 v' ((oK D κ k).length + 1) (cellsW (oK D κ k) ++ (wrCells y).toList)) : DR D q vl w f p B κ v' left (k + 1) Z := by
  obtain ⟨hq, hv⟩ := h0.lt
  have hlow : ∀ b, out.ownBlock = some b → w.heap.size ≤ b := fun b hb => (h.ow.lt b hb).1
  have hb : BW w Z := Below.grown h.low hg (Below.size h.low) hlow
  refine ⟨h0.on hb, hb, ?_, h.ge, h.lt, Nat.le_trans h.le hg.size, ?_, ?_⟩
  · refine (hg.block p h.st.lt (fun e => ?_)).trans h.st
    rcases h.ow.2 with ⟨e2, _⟩ | ⟨g, c, cur, e2, _, hh, _⟩
    · rw [e2] at e; cases e
    · rw [e2] at e
      have : g = p := by simpa [Value.ownBlock] using e.symm
      rw [this, h.st] at hh
      simp at hh
  · rw [hy.1, List.length_append]
    unfold cellsW at ho ⊢
    rw [List.flatMap_append]
    simpa using ho
  · rw [hy.2]
    exact h.lf.kept hg (rows_apart h.lf h.ow (by decide))
theorem DR.lefts {D : Dbf} {q : Nat} {vl : Value} {w : World} {f : Sto} {p B : Nat} {κ : Int × Int} {out left v' : Value} {k : Nat} {X Z : World} (h : DR D q vl w f p B κ out left k X) (h0 : DAt D q vl w) (y : Sto) (hy : oK D κ (k + 1) = oK D κ k ∧ lK D κ (k + 1) = lK D κ k ++ [y])
    (hg : X.grownBy Z left.ownBlock) (ho : Z.ownsRow B 63 5 v' ((lK D κ k).length + 1) (cellsS (lK D κ k) ++ (stoC y).toList)) : DR D q vl w f p B κ out v' (k + 1) Z := by
  obtain ⟨hq, hv⟩ := h0.lt
  have hB := h.lt
  have hG := h.ge
  have hlow : ∀ b, left.ownBlock = some b → B ≤ b := fun b hb => (h.lf.lt b hb).1
  have hb : BW w Z := Below.grown h.low hg (Below.size h.low) (fun b hb => by have := hlow b hb; omega)
  refine ⟨h0.on hb, hb, (hg.block p h.st.lt (fun e => by have := hlow p e.symm; omega)).trans h.st, h.ge, h.lt, Nat.le_trans h.le hg.size, ?_, ?_⟩
  · rw [hy.1]
    exact h.ow.kept hg (rows_apart h.ow h.lf (by decide))
  · rw [hy.2, List.length_append, cellsS_append]
    have e : cellsS [y] = (stoC y).toList := by unfold cellsS; simp
    rw [e]
    exact ho
/-- What Drain tells. -/
def RetD (w : World) (s : Bst) (D : Dbf) (q : Nat) (vl : Value) (k : Int) (e : Ending) (w' : World) : Prop :=
  ∃ v vl' D', e = .returned v ∧ w'.ownsRow w.heap.size 34 4 v (outB s k).length (cellsW (outB s k)) ∧ TI (draB s k) D' ∧ D'.l.length ≤ D.l.length ∧ DAt D' q vl' w' ∧ Fr [q] w w' ∧ ∀ b, vl'.ownBlock = some b → vl.ownBlock = some b ∨ w.heap.size ≤ b
theorem RetD.no {w w' : World} {s : Bst} {D : Dbf} {q : Nat} {vl : Value} {k : Int} (hn : ¬ mayGo s k = true) (ht : TI s D) (hd : DAt D q vl w') (hb : BW w w') : RetD w s D q vl k (.returned (.slice none 0 0)) w' := by
  have e1 : outB s k = [] := by unfold outB; rw [if_neg hn]
  have e2 : draB s k = s := by unfold draB; rw [if_neg hn]
  refine ⟨_, vl, D, rfl, ?_, by rw [e2]; exact ht, Nat.le_refl _, hd, Fr.of _ hb, fun b hb => .inl hb⟩
  rw [e1]
  exact World.ownsRow_nil _ _ _ _
theorem RetD.yes {w X : World} {s : Bst} {D : Dbf} {q p B : Nat} {vl out left : Value} {f : Sto} {κ : Int × Int} {k : Int} (hg : mayGo s k = true) (ht : TI s D) (hok : BsOk s) (hκ : ∃ k', ∃ hk : k' < s.es.length, k = (k' : Int) ∧ ∃ y ∈ s.es[k'].st, κ = (s.es[k'].ep, bkN y))
    (h0 : DAt D q vl w) (h : DR D q vl w f p B κ out left D.l.length X) : RetD w s D q vl k (.returned out) (X.setCell ⟨q, 0, none⟩ left) := by
  obtain ⟨h1, h2⟩ := ht.dra hok hg hκ
  have eo : oK D κ D.l.length = outB s k := by unfold oK; rw [List.take_length]; exact h1
  have el : lK D κ D.l.length = D.l.filter fun x => !decide (keyS x = κ) := by unfold lK; rw [List.take_length]
  have how := h.ow
  have hlf := h.lf
  rw [eo] at how
  rw [el] at hlf
  obtain ⟨hq, hv⟩ := h0.lt
  have hge := h.ge
  have hlt := h.lt
  have hset : Fr [q] X (X.setCell ⟨q, 0, none⟩ left) := (Fr.refl _ _).setCell (.inl (by simp)) _
  refine ⟨out, left, _, rfl, hset.row how (fun b hb hm => ?_), h2, List.length_filter_le _ _, ⟨h.d.head.set 0 _, hset.row (own_mono hlf) (fun b hb hm => ?_), fun b hb e => ?_⟩, (Fr.of [q] h.low).trans hset (fun i hi => .inl hi), fun b hb => ?_⟩
  · have := (how.lt b hb).1; have hm : b = q := (by simpa using hm); omega
  · have := (hlf.lt b hb).1; have hm : b = q := (by simpa using hm); omega
  · have := (hlf.lt b hb).1; omega
  · have := (hlf.lt b hb).1; right; omega
set_option maxHeartbeats 16000000 in
theorem rdrain_c {s : Bst} {D : Dbf} {q : Nat} {vl : Value} {w : World} (h : DAt D q vl w) (ht : TI s D) (hok : BsOk s) (hl : D.l.length ≤ 1000) (k : Int) :
    Calls Try.prog 16 #[.pointer (some ⟨q, 0, none⟩), .int .i64 k] w (RetD w s D q vl k) := by
  obtain ⟨A, c, rfl⟩ := own_shape h.row
  obtain ⟨iS, hiS, hzS, hsS, hbS⟩ := inf_parts (P := Try.prog) (e := 63) (z := .agg (stoC (⟨0, 0, 0, 0⟩, 0))) (n := 5) (b := 40) (by kernel_rfl)
  obtain ⟨iW, hiW, hzW, hsW, hbW⟩ := inf_parts (P := Try.prog) (e := 34) (z := .agg (wrCells ⟨0, 0, 0, 0⟩)) (n := 4) (b := 32) (by kernel_rfl)
  have HRD := Lib.hid (rready_c h ht hok hl)
  have HE := Lib.hid (fun X (hX : DAt D q (.slice A D.l.length c) X) => (show Calls Try.prog 33 #[.pointer (some ⟨q, 0, none⟩)] X fun e w' => ∃ v us, e = .returned v ∧ RwAt X.heap.size (s.es.map entG) v us w' ∧ BW X w' from by
    have := rentries_c hX hl (fun x hx => (ht.ok hok hx).1)
    rw [ht.grp] at this
    exact this))
  have HENT := Lib.hid (fun B m cv Av us X (hX : RwAt B (s.es.map entG) (.slice Av m cv) us X) k hk => hX.ent hok (k := k) hk)
  have HH := Lib.hid h
  have HNO := Lib.hid (fun (hn : ¬ mayGo s k = true) w' hd hw => RetD.no (w := w) (w' := w') (q := q) (vl := .slice A D.l.length c) hn ht hd hw)
  have HYES := Lib.hid (fun f p B κ out left X (hg : mayGo s k = true) hκ hX => RetD.yes (w := w) (X := X) (q := q) (vl := .slice A D.l.length c) (f := f) (p := p) (B := B) (κ := κ) (out := out) (left := left) hg ht hok hκ h hX)
  have HMEM : Hid (k ∈ rdyI s s.es.length ↔ mayGo s k = true) := mem_ready
  have HHD := Lib.hid (fun k (hk : k < s.es.length) => hdE_mem (hok.some _ (List.getElem_mem hk)).1)
  have HSO := Lib.hid (fun k (hk : k < s.es.length) => (mayW_out (hok.st _ (List.getElem_mem hk) _ (hdE_mem (hok.some _ (List.getElem_mem hk)).1)).may))
  have HOK := Lib.hid (fun x (hx : x ∈ D.l) => (mayW_out (ht.ok hok hx).1.may))
  have HRL := Lib.hid (rdyI_len s s.es.length)
  have hl4 := hok.len
  clear h ht hok
  generalize hRP : RetD w s D q (.slice A D.l.length c) k = RP at *
  clear hRP
  go_enter Try.func16, Try.ntmps16
  go_wp2_with (first
    | (go_at_call 38; refine HRD.out.mono ?_; rintro e w1 ⟨vr, rfl, hor, hb1⟩; obtain ⟨Ar, cr, rfl⟩ := own_shape hor; have HOR := Lib.hid hor; have HB1 := Lib.hid hb1; clear hor hb1))
  clear HRD
  obtain ⟨rl, hrl⟩ : ∃ rl, rdyI s s.es.length = rl := ⟨_, rfl⟩
  rw [hrl] at HOR HMEM HRL ⊢
  clear hrl
  have hrl4 : rl.length ≤ 4 := Nat.le_trans HRL.out hl4
  go_loop [6, 7] (fun b j => ∃ z : Nat, z ≤ rl.length ∧ j = .int .i64 (z : Int) ∧ ∃ bb : Bool, b = .bool bb ∧ Hid (bb = true ↔ k ∈ rl.take z)) (fun _ j => rl.length - (intOf j).toNat)
  case atStart => exact ⟨0, by omega, rfl, false, rfl, ⟨fun h => (by cases h), fun h => by simp at h⟩⟩
  case round =>
    obtain ⟨z, hz, rfl, bb, rfl, HB⟩ := hrel
    by_cases hzl : z < rl.length
    · have hzI : (z : Int) < (rl.length : Int) := by omega
      obtain ⟨gr, rfl⟩ : ∃ gr, Ar = some ⟨gr, 0, none⟩ := by
        rcases HOR.out.2 with ⟨e, e2⟩ | ⟨g, _, _, e, _⟩
        · omega
        · cases e; exact ⟨g, rfl⟩
      have hcz : w1.cell? ⟨gr, z, none⟩ = some (.int .i64 rl[z]) := own_at HOR.out (by unfold cellsI; rw [List.getElem?_map, List.getElem?_eq_getElem hzl]; rfl)
      have HT := Lib.hid (show k ∈ rl.take (z + 1) ↔ k ∈ rl.take z ∨ rl[z] = k from by rw [take_succ_l hzl, List.mem_append, List.mem_singleton]; exact ⟨fun h => h.imp id Eq.symm, fun h => h.imp id Eq.symm⟩)
      generalize rl[z] = y at *
      cases bb with
      | true =>
        have HT2 := Lib.hid (HT.out.2 (.inl (HB.out.1 rfl)))
        clear HT HB
        go_wp2
        go_round
        case rel => exact ⟨z + 1, by omega, by first | rfl | go_num, true, rfl, ⟨fun _ => HT2.out, fun _ => rfl⟩⟩
        case measure => simp [intOf]; omega
      | false =>
        by_cases hy : y = k
        · have HT2 := Lib.hid (HT.out.2 (.inr hy))
          have ey : (y == k) = true := by simpa using hy
          subst hy
          clear HT HB
          go_wp2
          go_round
          case rel => exact ⟨z + 1, by omega, by first | rfl | go_num, true, by first | rfl | simp, ⟨fun _ => HT2.out, fun _ => rfl⟩⟩
          case measure => simp [intOf]; omega
        · have HT2 : Hid (¬ k ∈ rl.take (z + 1)) := fun h => by
            rcases HT.out.1 h with h1 | h1
            · have := HB.out.2 h1; cases this
            · exact hy h1
          have ey : (y == k) = false := by simpa using hy
          clear HT HB
          go_wp2
          go_round
          case rel => exact ⟨z + 1, by omega, by first | rfl | go_num, false, by first | rfl | simp, ⟨fun h => (by cases h), fun h => absurd h HT2.out⟩⟩
          case measure => simp [intOf]; omega
    · obtain rfl : z = rl.length := by omega
      have HBM : Hid (bb = true ↔ mayGo s k = true) := by
        have h1 := HB.out
        rw [List.take_length] at h1
        exact h1.trans HMEM.out
      clear HB HMEM HRL
      cases bb with
      | false =>
        have HNM : Hid (¬ mayGo s k = true) := fun h => by have := HBM.out.2 h; cases this
        clear HBM HYES
        go_wp2
        try go_ret
        exact HNO.out HNM.out _ (HH.out.on HB1.out) HB1.out
      | true =>
        have HG := Lib.hid (HBM.out.1 rfl)
        obtain ⟨kk, hkk, rfl⟩ : ∃ kk : Nat, kk < s.es.length ∧ k = (kk : Int) := by
          have := HG.out
          unfold mayGo at this
          simp only [Bool.and_eq_true, decide_eq_true_eq] at this
          exact ⟨k.toNat, by omega, by omega⟩
        have HKAP : Hid (∃ k', ∃ hk : k' < s.es.length, (kk : Int) = (k' : Int) ∧ ∃ y ∈ s.es[k'].st, (s.es[kk].ep, bkN (hdE s.es[kk])) = (s.es[k'].ep, bkN y)) := ⟨kk, hkk, rfl, _, HHD.out kk hkk, rfl⟩
        have hso := HSO.out kk hkk
        clear HBM HNO HHD HSO
        have hkkI : (0 : Int) ≤ (kk : Int) ∧ (kk : Int) < (s.es.length : Int) := by omega
        obtain ⟨fe, hfe⟩ : ∃ fe, s.es[kk].ep = fe := ⟨_, rfl⟩
        obtain ⟨f, hf⟩ : ∃ f, hdE s.es[kk] = f := ⟨_, rfl⟩
        rw [hfe, hf] at HKAP
        rw [hf] at hso
        have HFE := Lib.hid hfe
        have HF := Lib.hid hf
        clear hfe hf
        obtain ⟨fi, fa, fz, fd⟩ := f
        have hbk : bkN ⟨fi, fa, fz, fd⟩ = fa / 8 := rfl
        rw [hbk] at HKAP
        obtain ⟨_, _, hfa0, _, hfa1⟩ := hso
        simp only at hfa0 hfa1
        clear hbk
        go_wp2_with (first
          | (go_at_call 33; refine (HE.out _ (HH.out.on HB1.out)).mono ?_; rintro e w6 ⟨v, us, rfl, hrw, hbw⟩; have hul : us.length = s.es.length := by { rw [hrw.len, List.length_map] }; obtain ⟨Av, cv, rfl⟩ := own_shape hrw.row; rw [hul] at hrw ⊢; obtain ⟨gv, gk, ck, rfl, _, hst0, hst8, hcl⟩ := HENT.out _ _ _ _ _ _ hrw kk hkk; have hcl2 := hcl _ hrw; rw [HF.out, HFE.out] at hcl2; simp only [stoC] at hcl2; have a1 := hcl2.1; have HCL := Lib.hid hcl2.2.2; obtain ⟨lk, hlk⟩ : ∃ lk, s.es[kk].st.length = lk := ⟨_, rfl⟩; rw [hlk] at a1 hst0 hst8; have hlkI : (0 : Int) < (lk : Int) := by { omega }; have HB6 := Lib.hid (BW.on HB1.out hbw); clear hrw hbw hul hcl hcl2 hlk)
          | (with_reducible refine Hz.val_arm (o := ⟨some 37, .load _ _, _, _, _, _⟩) (by kernel_rfl) (Hz.ex_load_cells [.int .i64 fi, .int .i64 fa, .int .i64 fz, .int .u64 fd, .int .i64 fe] rfl rfl (fun j v hv => by rw [Nat.zero_add]; exact HCL.out j v hv) Try.underlying63 rfl (by kernel_rfl)) ?_))
        obtain ⟨w8, hw8⟩ : ∃ w8, w6.alloc (.cells #[.int .i64 fi, .int .i64 fa, .int .i64 fz, .int .u64 fd, .int .i64 fe] 63) = w8 := ⟨_, rfl⟩
        have HST := Blk.new #[.int .i64 fi, .int .i64 fa, .int .i64 fz, .int .u64 fd, .int .i64 fe] 63 w6
        have HB8 := BW.new HB6.out (.cells #[.int .i64 fi, .int .i64 fa, .int .i64 fz, .int .u64 fd, .int .i64 fe] 63)
        have hs8 : w8.heap.size = w6.heap.size + 1 := by rw [← hw8, World.size_alloc]
        rw [hw8] at HST HB8 ⊢
        obtain ⟨p, hp⟩ : ∃ p, w6.heap.size = p := ⟨_, rfl⟩
        rw [hp] at HST hs8 ⊢
        have hpw : w.heap.size ≤ p := by rw [← hp]; exact Below.size HB6.out
        have HDR0 : Hid (DR D q (.slice A D.l.length c) w (⟨fi, fa, fz, fd⟩, fe) p (p + 1) (fe, fa / 8) (.slice none 0 0) (.slice none 0 0) 0 w8) := ⟨HH.out.on HB8, HB8, HST, hpw, Nat.lt_succ_self _, by omega, World.ownsRow_nil _ _ _ _, World.ownsRow_nil _ _ _ _⟩
        have HTGA := Lib.hid (fun xi xa xz xd xe hx X => tog_c fi fa fz fd fe xi xa xz xd xe ⟨hfa0, by omega⟩ hx X)
        clear hw8 HST HB8 hs8 hp hpw HB6 HCL a1 HE HENT HB1 HOR
        go_loopw [9, 10, 11] (fun o l j wx => ∃ k : Nat, k ≤ D.l.length ∧ j = .int .i64 (k : Int) ∧ Hid (DR D q (.slice A D.l.length c) w (⟨fi, fa, fz, fd⟩, fe) p (p + 1) (fe, fa / 8) o l k wx)) (fun _ _ j _ => D.l.length - (intOf j).toNat)
        case atStart => exact ⟨0, by omega, rfl, HDR0.out⟩
        case round =>
          obtain ⟨i, hi, rfl, HX⟩ := hrel
          clear HDR0
          have c0 : wr.cell? ⟨q, 0, none⟩ = some (.slice A D.l.length c) := HX.out.d.head.cell 0
          have cf0 : wr.frozen? ⟨q, 0, none⟩ = false := HX.out.d.head.free 0
          by_cases hlt : i < D.l.length
          · have hltI : (i : Int) < (D.l.length : Int) := by omega
            obtain ⟨g, rfl, hg⟩ := HX.out.d.at_ hlt
            have HCS := Lib.hid hg
            have hxo := HOK.out _ (List.getElem_mem hlt)
            have HY := Lib.hid (fun h => oK_yes (D := D) (κ := (fe, fa / 8)) hlt h)
            have HN := Lib.hid (fun h => oK_no (D := D) (κ := (fe, fa / 8)) hlt h)
            have hOL := oK_len D (fe, fa / 8) i
            clear hg
            generalize D.l[i] = x at *
            obtain ⟨⟨xi, xa, xz, xd⟩, xe⟩ := x
            have hkx : keyS (⟨xi, xa, xz, xd⟩, xe) = (xe, xa / 8) := rfl
            rw [hkx] at HY HN
            simp only [stoC] at HCS HY HN
            obtain ⟨_, _, hxa0, _, hxa1⟩ := hxo
            simp only at hxa0 hxa1
            have htg := HTGA.out xi xa xz xd xe ⟨hxa0, by omega⟩
            have HDE : Hid (decide (fe = xe ∧ fa / 8 = xa / 8) = decide ((xe, xa / 8) = (fe, fa / 8))) := by
              show _ = _
              rw [Bool.eq_iff_iff, decide_eq_true_eq, decide_eq_true_eq, Prod.mk.injEq]
              exact ⟨fun h => ⟨h.1.symm, h.2.symm⟩, fun h => ⟨h.1.symm, h.2.symm⟩⟩
            rw [HDE.out] at htg
            have HTG := Lib.hid htg
            clear htg HDE hkx
            go_wp2_with (fail)
            go_cut [55] from 47 to 55 (fun b wx => b = .bool (decide ((xe, xa / 8) = (fe, fa / 8))) ∧ Hid (DR D q (.slice (some ⟨g, 0, none⟩) D.l.length c) w (⟨fi, fa, fz, fd⟩, fe) p (p + 1) (fe, fa / 8) u9 u10 i wx))
            case first =>
              refine wp_region_held (S := DR D q (.slice (some ⟨g, 0, none⟩) D.l.length c) w (⟨fi, fa, fz, fd⟩, fe) p (p + 1) (fe, fa / 8) u9 u10 i) (by kernel_rfl) ?_
              change wpAnyH _ _ _ _ _ _ _ _ (World.drew _)
              have HS := HX.out.on (Below.drew (Below.refl _ _))
              clear HX
              generalize World.drew _ = w3 at *
              refine hk_load (i := 0) (oi := ⟨some 47, .load _ _, _, _, _, _⟩) rfl (by kernel_rfl) (by kernel_rfl) (by kernel_rfl) (fun _ _ _ h => h) (by kernel_rfl) _ _ rfl rfl (fun _ h => h.st) Try.underlying63 rfl (by kernel_rfl) HS ?_
              simp only [Act.put, List.setIfInBounds_toArray, List.set_cons_zero, List.set_cons_succ]
              refine hk_val (i := 1) (oi := ⟨some 48, .move _, _, _, _, _⟩) (.pointer (some ⟨q, 0, none⟩)) rfl (by kernel_rfl) (by kernel_rfl) (by kernel_rfl) (fun _ _ _ h => h) (by kernel_rfl) (fun _ _ => rfl) HS ?_
              simp only [Act.put, List.setIfInBounds_toArray, List.set_cons_zero, List.set_cons_succ]
              refine hk_val (i := 2) (oi := ⟨some 49, .nilCheck _, _, _, _, _⟩) (.pointer (some ⟨q, 0, none⟩)) rfl (by kernel_rfl) (by kernel_rfl) (by kernel_rfl) (fun _ _ _ h => h) (by kernel_rfl) (fun _ _ => rfl) HS ?_
              simp only [Act.put, List.setIfInBounds_toArray, List.set_cons_zero, List.set_cons_succ]
              refine hk_val (i := 3) (oi := ⟨some 50, .fieldAddr _ _ _, _, _, _, _⟩) (.pointer (some ⟨q, 0, none⟩)) rfl (by kernel_rfl) (by kernel_rfl) (by kernel_rfl) (fun _ _ _ h => h) (by kernel_rfl) (fun _ _ => by kernel_rfl) HS ?_
              simp only [Act.put, List.setIfInBounds_toArray, List.set_cons_zero, List.set_cons_succ]
              refine hk_val (i := 4) (oi := ⟨some 51, .load _ _, _, _, _, _⟩) (.slice (some ⟨g, 0, none⟩) D.l.length c) rfl (by kernel_rfl) (by kernel_rfl) (by kernel_rfl) (fun _ _ _ h => h) (by kernel_rfl) (fun x hx => ex_load rfl rfl (hx.d.head.cell 0) (by kernel_rfl)) HS ?_
              simp only [Act.put, List.setIfInBounds_toArray, List.set_cons_zero, List.set_cons_succ]
              refine hk_val (i := 5) (oi := ⟨some 52, .move _, _, _, _, _⟩) (.int .i64 (i : Int)) rfl (by kernel_rfl) (by kernel_rfl) (by kernel_rfl) (fun _ _ _ h => h) (by kernel_rfl) (fun _ _ => rfl) HS ?_
              simp only [Act.put, List.setIfInBounds_toArray, List.set_cons_zero, List.set_cons_succ]
              refine hk_val (i := 6) (oi := ⟨some 53, .indexAddr _ _ _, _, _, _, _⟩) (.pointer (some ⟨g, i * 5, none⟩)) rfl (by kernel_rfl) (by kernel_rfl) (by kernel_rfl) (fun _ _ _ h => h) (by kernel_rfl) (fun _ _ => Hz.ex_indexp (z := 5) rfl rfl rfl rfl hlt Try.underlying29 (by kernel_rfl) (Nat.zero_add _)) HS ?_
              simp only [Act.put, List.setIfInBounds_toArray, List.set_cons_zero, List.set_cons_succ]
              refine hk_val (i := 7) (oi := ⟨some 54, .load _ _, _, _, _, _⟩) (.agg #[.int .i64 xi, .int .i64 xa, .int .i64 xz, .int .u64 xd, .int .i64 xe]) rfl (by kernel_rfl) (by kernel_rfl) (by kernel_rfl) (fun _ _ _ h => h) (by kernel_rfl) (fun x hx => Hz.ex_load_cells [.int .i64 xi, .int .i64 xa, .int .i64 xz, .int .u64 xd, .int .i64 xe] rfl rfl (HCS.out x hx.d) Try.underlying63 rfl (by kernel_rfl)) HS ?_
              simp only [Act.put, List.setIfInBounds_toArray, List.set_cons_zero, List.set_cons_succ]
              refine hk_call (i := 8) (oi := ⟨some 55, .call _, _, _, _, _⟩) (by kernel_rfl) rfl (by kernel_rfl) (by first | rfl | kernel_rfl) (HTG.out _) ?_
              rintro e w4 ⟨rfl, hb⟩
              have HS4 := HS.on hb
              refine ⟨_, rfl, HS4, ?_⟩
              simp only [Act.put, List.setIfInBounds_toArray, List.set_cons_zero, List.set_cons_succ]
              refine wpAnyH_done (by kernel_rfl) ?_ _
              go_wp2
              go_meet
              case rel => exact ⟨rfl, HS4⟩
            case rest =>
              obtain ⟨rfl, HZ⟩ := hcut
              clear HX
              have c0' : World.cell? _ ⟨q, 0, none⟩ = some (.slice (some ⟨g, 0, none⟩) D.l.length c) := HZ.out.d.head.cell 0
              by_cases hm : (xe, xa / 8) = (fe, fa / 8)
              · have hd : decide ((xe, xa / 8) = (fe, fa / 8)) = true := decide_eq_true hm
                rw [hd]
                have HYY := Lib.hid (HY.out hm)
                clear hd hm HY HN
                have HCW := Lib.hid (four5 (HCS.out _ HZ.out.d))
                obtain ⟨wz, hwz⟩ : ∃ wz, wc = wz := ⟨_, rfl⟩
                rw [hwz] at HZ HCW c0' ⊢
                clear hwz
                have HA := Lib.hid (HZ.out.on (BW.new (Below.refl _ _) (.cells #[.int .i64 xi, .int .i64 xa, .int .i64 xz, .int .u64 xd] 34)))
                have HOL := Lib.hid hOL
                go_wp2_with (first
                  | (with_reducible refine Hz.val_arm (o := ⟨some 64, .load _ _, _, _, _, _⟩) (by kernel_rfl) (Hz.ex_load_cells [.int .i64 xi, .int .i64 xa, .int .i64 xz, .int .u64 xd] rfl rfl HCW.out Try.underlying34 rfl (by kernel_rfl)) ?_)
                  | (at_builtin; refine wpList_append_own _ rfl _ _ 39 rfl w.heap.size 34 iW (.agg (wrCells ⟨0, 0, 0, 0⟩)) 4 32 Try.underlying39 hiW hzW hsW hbW rfl (by decide) _ _ _ rfl HA.out.ow ⟨_, 0, none⟩ 1 1 [.int .i64 xi, .int .i64 xa, .int .i64 xz, .int .u64 xd] rfl rfl ?_ ?_ ?_ ?_ ?_ ?_))
                · exact World.news_of_block (Blk.new _ _ _)
                · intro u hu; simp at hu; rcases hu with rfl | rfl | rfl | rfl <;> rfl
                · have := HOL.out; unfold maxLen; omega
                · have := HOL.out; omega
                · exact Below.size HA.out.low
                intro v' w6 ho6 hg6 _
                have HXN := Lib.hid (HA.out.outs HH.out ⟨xi, xa, xz, xd⟩ HYY.out hg6 ho6)
                clear ho6 hg6 HA HZ
                go_wp2
                go_roundw
                case rel => exact ⟨i + 1, by omega, by first | rfl | go_num, HXN⟩
                case measure => simp [intOf]; omega
              · have hd : decide ((xe, xa / 8) = (fe, fa / 8)) = false := decide_eq_false hm
                rw [hd]
                have HNN := Lib.hid (HN.out hm)
                clear hd hm HY HN
                have HCW := Lib.hid (HCS.out _ HZ.out.d)
                obtain ⟨wz, hwz⟩ : ∃ wz, wc = wz := ⟨_, rfl⟩
                rw [hwz] at HZ HCW c0' ⊢
                clear hwz
                have HA := Lib.hid (HZ.out.on (BW.new (Below.refl _ _) (.cells #[.int .i64 xi, .int .i64 xa, .int .i64 xz, .int .u64 xd, .int .i64 xe] 63)))
                have HOL := Lib.hid hOL
                go_wp2_with (first
                  | (with_reducible refine Hz.val_arm (o := ⟨some 74, .load _ _, _, _, _, _⟩) (by kernel_rfl) (Hz.ex_load_cells [.int .i64 xi, .int .i64 xa, .int .i64 xz, .int .u64 xd, .int .i64 xe] rfl rfl HCW.out Try.underlying63 rfl (by kernel_rfl)) ?_)
                  | (at_builtin; refine wpList_append_own _ rfl _ _ 29 rfl (p + 1) 63 iS (.agg (stoC (⟨0, 0, 0, 0⟩, 0))) 5 40 Try.underlying29 hiS hzS hsS hbS rfl (by decide) _ _ _ rfl HA.out.lf ⟨_, 0, none⟩ 1 1 [.int .i64 xi, .int .i64 xa, .int .i64 xz, .int .u64 xd, .int .i64 xe] rfl rfl ?_ ?_ ?_ ?_ ?_ ?_))
                · exact World.news_of_block (Blk.new _ _ _)
                · intro u hu; simp at hu; rcases hu with rfl | rfl | rfl | rfl | rfl <;> rfl
                · have := HOL.out; unfold maxLen; omega
                · have := HOL.out; omega
                · exact HA.out.le
                intro v' w6 ho6 hg6 _
                have HXN := Lib.hid (HA.out.lefts HH.out (⟨xi, xa, xz, xd⟩, xe) HNN.out hg6 ho6)
                clear ho6 hg6 HA HZ
                go_wp2
                go_roundw
                case rel => exact ⟨i + 1, by omega, by first | rfl | go_num, HXN⟩
                case measure => simp [intOf]; omega
          · obtain rfl : i = D.l.length := by omega
            obtain ⟨Al, cl, rfl⟩ := own_shape HX.out.lf
            have HFIN := Lib.hid (HYES.out _ _ _ _ _ _ _ HG.out HKAP.out HX.out)
            clear HYES HX
            go_wp2
            try go_ret
            exact HFIN.out
end Go.Proofs.Ytcddgcchpmjdiaa
