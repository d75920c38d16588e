/- SbufPlays: whatever is put and drained, with barriers between, is the document's. -/
import Derived.Test.YtcddgcchpmjdiaaWn
import Derived.Test.YtcddgcchpmjdiaaVu
import Derived.Deep.CutBlock
set_option maxRecDepth 100000
set_option linter.unusedVariables false
namespace Go.Proofs.Ytcddgcchpmjdiaa
open Go.RowKit

/-- Blocks of R are written, and new ones made. -/
theorem OX.fr {W w w' : World} {R R' F : List Nat} {g : Nat} {s : Bst} (h : OX W R g s w) (hf : Fr F w w') (hF : ∀ i ∈ F, i ∈ R ∧ W.heap.size ≤ i) (hR : ∀ r ∈ R', r < w'.heap.size ∧ (r ∈ R ∨ w.heap.size ≤ r)) : OX W R' g s w' := by
  obtain ⟨h0, hr, p, h1, h2, h3, h4⟩ := h
  refine ⟨h0, fun r hm => (hR r hm).1, p, h1.fr hf (fun i hi hm => (h3 i hi).2 (hF i hm).1), h2, fun i hi => ⟨(h3 i hi).1, fun hm => ?_⟩, Below.trans h4 (hf.below (fun i hi => (hF i hi).2) (Below.size h4))⟩
  rcases (hR i hm).2 with h5 | h5
  · exact (h3 i hi).2 h5
  · have := h1.lt i hi; omega
theorem DAt.same {D : Dbf} {q : Nat} {vl : Value} {R : List Nat} {w w' : World} (h : DAt D q vl w) (hs : Same R w w') (hR : ∀ i ∈ q :: vl.ownBlock.toList, i ∈ R) : DAt D q vl w' :=
  ⟨hs.blk h.head (hR q (by simp)), hs.row h.row (fun k hk => hR k (by simp [hk])), h.ne⟩
theorem fr_more {F G : List Nat} {w w' : World} (h : Fr F w w') (hG : ∀ i ∈ F, i ∈ G) : Fr G w w' := ⟨h.os, h.tape, h.output, h.size, fun k hk hn => h.block k hk (fun hm => hn (hG k hm))⟩
theorem outB_le {s : Bst} (hok : BsOk s) (q : Int) : (outB s q).length ≤ 8 := by
  unfold outB
  by_cases h : mayGo s q = true
  · rw [if_pos h]
    unfold mayGo at h
    simp only [Bool.and_eq_true, decide_eq_true_eq] at h
    have hk : q.toNat < s.es.length := by omega
    rw [getD_ent hk]
    exact (hok.some _ (List.getElem_mem hk)).2
  · rw [if_neg h]; simp
/-- Both buffers, and the act. -/
structure LQ2 (W : World) (g q b : Nat) (cs : Array Value) (s : Bst) (D : Dbf) (vl : Value) (x : World) : Prop where
  ox : OX W (b :: q :: vl.ownBlock.toList) g s x
  d : DAt D q vl x
  bx : Blk cs 36 b x
  hb : b ≠ q ∧ ∀ i, vl.ownBlock = some i → i ≠ b
  hq : W.heap.size ≤ q
  hv : ∀ i, vl.ownBlock = some i → W.heap.size ≤ i
theorem LQ2.on {W : World} {g q b : Nat} {cs : Array Value} {s : Bst} {D : Dbf} {vl : Value} {x y : World} (h : LQ2 W g q b cs s D vl x) (k : BW x y) : LQ2 W g q b cs s D vl y := ⟨h.ox.on k, h.d.on k, h.bx.on k, h.hb, h.hq, h.hv⟩
theorem LQ2.step {W : World} {g q b : Nat} {cs : Array Value} {s s' : Bst} {D : Dbf} {vl : Value} {x y : World} (h : LQ2 W g q b cs s D vl x) (k : OX W (b :: q :: vl.ownBlock.toList) g s' y) (hs : Same (b :: q :: vl.ownBlock.toList) x y) : LQ2 W g q b cs s' D vl y :=
  ⟨k, h.d.same hs (fun i hi => List.mem_cons_of_mem _ hi), hs.blk h.bx (by simp), h.hb, h.hq, h.hv⟩
/-- The document's buffer turns. -/
theorem LQ2.dstep {W : World} {g q b : Nat} {cs : Array Value} {s : Bst} {D D' : Dbf} {vl vl' : Value} {x y : World} (h : LQ2 W g q b cs s D vl x) (hd : DAt D' q vl' y) (hf : Fr (q :: vl.ownBlock.toList) x y) (hv : ∀ k, vl'.ownBlock = some k → vl.ownBlock = some k ∨ x.heap.size ≤ k) : LQ2 W g q b cs s D' vl' y := by
  have hlow := h.ox.low
  have hbl := h.bx.lt
  have hql := h.d.head.lt
  have hvb : ∀ i, vl'.ownBlock = some i → i ≠ b ∧ W.heap.size ≤ i := fun i hi => by
    rcases hv i hi with h1 | h1
    · exact ⟨h.hb.2 i h1, h.hv i h1⟩
    · have := Below.size hlow; exact ⟨by omega, by omega⟩
  have hbF : b ∉ q :: vl.ownBlock.toList := by
    intro hm
    simp only [List.mem_cons, Option.mem_toList] at hm
    rcases hm with hm | hm
    · exact h.hb.1 hm
    · exact h.hb.2 b hm rfl
  refine ⟨h.ox.fr hf (fun i hi => ⟨List.mem_cons_of_mem _ hi, ?_⟩) (fun r hr => ?_), hd, hf.blk h.bx hbF, ⟨h.hb.1, fun i hi => (hvb i hi).1⟩, h.hq, fun i hi => (hvb i hi).2⟩
  · simp only [List.mem_cons, Option.mem_toList] at hi
    rcases hi with rfl | hi
    · exact h.hq
    · exact h.hv i hi
  · simp only [List.mem_cons, Option.mem_toList] at hr
    rcases hr with rfl | rfl | hr
    · exact ⟨Nat.lt_of_lt_of_le hbl hf.size, .inl (by simp)⟩
    · exact ⟨Nat.lt_of_lt_of_le hql hf.size, .inl (by simp)⟩
    · refine ⟨(hd.row.lt r hr).2, ?_⟩
      rcases hv r hr with h1 | h1
      · exact .inl (by simp [h1])
      · exact .inr h1
/-- Both buffers, between acts. -/
structure LL (W : World) (g q : Nat) (s : Bst) (D : Dbf) (vl : Value) (x : World) : Prop where
  ox : OX W (q :: vl.ownBlock.toList) g s x
  d : DAt D q vl x
  hq : W.heap.size ≤ q
  hv : ∀ i, vl.ownBlock = some i → W.heap.size ≤ i
  ti : TI s D
theorem LL.on {W : World} {g q : Nat} {s : Bst} {D : Dbf} {vl : Value} {x y : World} (h : LL W g q s D vl x) (k : BW x y) : LL W g q s D vl y := ⟨h.ox.on k, h.d.on k, h.hq, h.hv, h.ti⟩
theorem LL.box {W : World} {g q : Nat} {s : Bst} {D : Dbf} {vl : Value} {x : World} (h : LL W g q s D vl x) (cs : Array Value) : LQ2 W g q x.heap.size cs s D vl (x.alloc (.cells cs 36)) := by
  have hq := h.d.lt
  refine ⟨h.ox.more (BW.new (Below.refl _ _) _) (fun r hr => ?_), h.d.on (BW.new (Below.refl _ _) _), Blk.new _ _ _, ⟨by omega, fun i hi => by have := hq.2 i hi; omega⟩, h.hq, h.hv⟩
  rw [World.size_alloc]
  simp only [List.mem_cons, Option.mem_toList] at hr
  rcases hr with rfl | rfl | hr
  · exact ⟨Nat.lt_succ_self _, .inr (Nat.le_refl _)⟩
  · exact ⟨by omega, .inl (by simp)⟩
  · exact ⟨by have := hq.2 r hr; omega, .inl (by simp [hr])⟩
theorem LQ2.back {W : World} {g q b : Nat} {cs : Array Value} {s : Bst} {D : Dbf} {vl : Value} {x : World} (h : LQ2 W g q b cs s D vl x) (ht : TI s D) : LL W g q s D vl x := by
  have hq := h.d.lt
  refine ⟨h.ox.more (Below.refl _ _) (fun r hr => ?_), h.d, h.hq, h.hv, ht⟩
  simp only [List.mem_cons, Option.mem_toList] at hr
  rcases hr with rfl | hr
  · exact ⟨hq.1, .inl (by simp)⟩
  · exact ⟨hq.2 r hr, .inl (by simp [hr])⟩
set_option maxHeartbeats 16000000 in
theorem plays13_walk (A : Option Addr) (cap : Nat) (l : List At) (W : World) (hcap : l.length ≤ 9223372036854775807) (hws : Wats l) (hr : Rd W W.heap.size A (cellsA l)) :
    Calls Try.prog 3 #[.slice A l.length cap] W fun e w' => e = .returned (.bool true) ∧ BW W w' := by
  have HAL := Lib.hid (fun w => alive13_any w)
  have HRI := Lib.hid hr
  have HW := Lib.hid hws
  clear hr hws
  go_enter Try.func3, Try.ntmps3
  go_wp2_with (first
    | (go_at_call 8; refine (HAL.out _).mono ?_; rintro e w1 ⟨rfl, hb⟩; have HX0 := Lib.hid (OX.new (R := []) hb (by simp)); have HB1 := Lib.hid hb; clear hb))
  have HLL0 : Hid (∃ g q, g = w1.heap.size ∧ q = w1.heap.size + 1 ∧ LL W g q ⟨[], 0⟩ ⟨[], 0⟩ (.slice none 0 0) ((w1.alloc (.cells #[.slice none 0 0, .int .i64 0] 27)).alloc (.cells #[.slice none 0 0, .int .i64 0] 31))) := by
    have hsz := Below.size HB1.out
    have hbk : Blk #[.slice none 0 0, .int .i64 0] 31 (w1.heap.size + 1) ((w1.alloc (.cells #[.slice none 0 0, .int .i64 0] 27)).alloc (.cells #[.slice none 0 0, .int .i64 0] 31)) := by
      have := Blk.new #[.slice none 0 0, .int .i64 0] 31 (w1.alloc (.cells #[.slice none 0 0, .int .i64 0] 27))
      rw [World.size_alloc] at this
      exact this
    refine ⟨_, _, rfl, rfl, HX0.out.more (BW.new (Below.refl _ _) _) (fun r hr => ?_), ⟨hbk, World.ownsRow_nil _ _ _ _, fun k hk => by cases hk⟩, by omega, (fun i hi => by cases hi), TI.zero⟩
    have hr' : r = w1.heap.size + 1 := by simpa [Value.ownBlock] using hr
    rw [hr', World.size_alloc, World.size_alloc]
    exact ⟨by omega, .inr (by omega)⟩
  obtain ⟨g, q, hg, hq, hll⟩ := HLL0.out
  clear HLL0 HX0 HB1
  have HLL := Lib.hid hll
  clear hll
  rw [← hg] at hq
  rw [← hg, ← hq]
  obtain ⟨w2, hw2⟩ : ∃ w2, (w1.alloc (.cells #[.slice none 0 0, .int .i64 0] 27)).alloc (.cells #[.slice none 0 0, .int .i64 0] 31) = w2 := ⟨_, rfl⟩
  rw [hw2] at HLL ⊢
  clear hg hq hw2
  go_loopw [5] (fun i wx => ∃ k : Nat, k ≤ l.length ∧ k ≤ 60 ∧ i = .int .i64 (k : Int) ∧ ∃ (s : Bst) (D : Dbf) (vl : Value), D.l.length ≤ k ∧ s.ep ≤ k ∧ Hid (LL W g q s D vl wx)) (fun i _ => 60 - (intOf i).toNat)
  case atStart => exact ⟨0, by omega, by omega, rfl, ⟨[], 0⟩, ⟨[], 0⟩, _, by simp, by simp, HLL.out⟩
  case round =>
    obtain ⟨k, hk1, hk2, rfl, s, D, vl, hDk, hEk, HL⟩ := hrel
    clear HLL
    by_cases hc : k < l.length ∧ k < 60
    · obtain ⟨hc1, hc2⟩ := hc
      have hc1' : (k : Int) < (l.length : Int) := by omega
      have hc2' : (k : Int) < 60 := by omega
      obtain ⟨b, off, hB, hbl, hcell⟩ := at_cell HRI.out (by omega)
      subst hB
      have hat := hcell k hc1
      have hwk := HW.out _ (List.getElem_mem hc1)
      obtain ⟨⟨kd, ⟨i, a, z, d⟩⟩, hx⟩ : ∃ x, l[k] = x := ⟨_, rfl⟩
      rw [hx] at hat hwk
      dsimp only at hat hwk
      clear hcell hx
      have HBL := HL.out.ox.low
      obtain ⟨a0, a1, a2, a3, a4⟩ := hat
      have c0 := (Below.cell HBL (p := ⟨b, off + k * 5, none⟩) hbl).trans a0
      have c1 := (Below.cell HBL (p := ⟨b, off + k * 5 + 1, none⟩) hbl).trans a1
      have c2 := (Below.cell HBL (p := ⟨b, off + k * 5 + 2, none⟩) hbl).trans a2
      have c3 := (Below.cell HBL (p := ⟨b, off + k * 5 + 3, none⟩) hbl).trans a3
      have c4 := (Below.cell HBL (p := ⟨b, off + k * 5 + 4, none⟩) hbl).trans a4
      clear a0 a1 a2 a3 a4
      have HQ0 := Lib.hid (HL.out.box #[.int .i64 kd, .int .i64 i, .int .i64 a, .int .i64 z, .int .u64 d])
      have hok := HL.out.ox.ok
      have HOK := Lib.hid hok
      have HTI := Lib.hid HL.out.ti
      have hep0 := hok.ep0
      have hwd := hwk.w
      clear HL hok hwk
      go_upto_block 2 with (fail)
      clear HBL c0 c1 c2 c3 c4
      obtain ⟨b6, hb6⟩ : ∃ b6, wr.heap.size = b6 := ⟨_, rfl⟩
      rw [hb6] at HQ0 ⊢
      obtain ⟨w5, hw5⟩ : ∃ w5, wr.alloc (.cells #[.int .i64 kd, .int .i64 i, .int .i64 a, .int .i64 z, .int .u64 d] 36) = w5 := ⟨_, rfl⟩
      rw [hw5] at HQ0 ⊢
      clear hw5 hb6
      go_cut [7, 8] from 37 to 77 (fun _ _ wx => ∃ (s' : Bst) (D' : Dbf) (vl' : Value), D'.l.length ≤ k + 1 ∧ s'.ep ≤ ((k + 1 : Nat) : Int) ∧ Hid (LQ2 W g q b6 #[.int .i64 kd, .int .i64 i, .int .i64 a, .int .i64 z, .int .u64 d] s' D' vl' wx) ∧ Hid (TI s' D'))
      case first =>
        have HCS := Lib.hid (fun X (hX : Blk #[.int .i64 kd, .int .i64 i, .int .i64 a, .int .i64 z, .int .u64 d] 36 b6 X) => (show ∀ j v, [.int .i64 i, .int .i64 a, .int .i64 z, .int .u64 d][j]? = some v → X.cell? ⟨b6, 1 + j, none⟩ = some v from fun j v hv => by rw [hX.cell (1 + j)]; match j, hv with | 0, hv => exact hv | 1, hv => exact hv | 2, hv => exact hv | 3, hv => exact hv))
        by_cases hk0 : kd = 0
        · subst hk0
          have hpe := putB_ep s ⟨i, a, z, d⟩
          have HFIT := Lib.hid (fun X vl (hX : LQ2 W g q b6 #[.int .i64 0, .int .i64 i, .int .i64 a, .int .i64 z, .int .u64 d] s D vl X) => hX.ox.fits ⟨i, a, z, d⟩ hwd.addr.2)
          have HPUT := Lib.hid (fun X vl (hX : LQ2 W g q b6 #[.int .i64 0, .int .i64 i, .int .i64 a, .int .i64 z, .int .u64 d] s D vl X) => hX.ox.put ⟨i, a, z, d⟩ hwd.addr.2 hwd.data.1 hwd.data.2)
          have HPUT2 := Lib.hid (fun X vl s' (hX : LQ2 W g q b6 #[.int .i64 0, .int .i64 i, .int .i64 a, .int .i64 z, .int .u64 d] s' D vl X) => rput_c hX.d HTI.out HOK.out (by omega) ⟨i, a, z, d⟩ hwd.addr.2 hwd.data.1 hwd.data.2)
          have HTP : Hid (∀ D', (D' = (if (placeN s ⟨i, a, z, d⟩).2 = true then ⟨D.l ++ [(low ⟨i, a, z, d⟩, D.ep)], D.ep⟩ else D)) → D'.l.length ≤ k + 1 ∧ TI (putB s ⟨i, a, z, d⟩) D') := fun D' hD' => by
            rcases hpl : (placeN s ⟨i, a, z, d⟩).2 with _ | _
            · rw [hpl] at hD'
              have e : putB s ⟨i, a, z, d⟩ = s := by unfold putB; rw [if_neg (by rw [hpl]; decide)]
              rw [e, hD', if_neg (by decide)]
              exact ⟨by omega, HTI.out⟩
            · rw [hpl] at hD'
              rw [hD', if_pos rfl]
              exact ⟨by show (D.l ++ [_]).length ≤ _; rw [List.length_append]; show D.l.length + 1 ≤ _; omega, HTI.out.put HOK.out hpl⟩
          generalize hpb : (placeN s ⟨i, a, z, d⟩).2 = pb at *
          generalize putB s ⟨i, a, z, d⟩ = sp at *
          have HPB := Lib.hid hpb
          clear hpb
          have HCW0 := Lib.hid (HCS.out _ HQ0.out.bx)
          go_wp2_with (first
            | (go_at_call 9; refine (HFIT.out _ _ HQ0.out).mono ?_; rintro e w6 ⟨rfl, hb⟩; have HQ1 := Lib.hid (HQ0.out.on hb); have HCW1 := Lib.hid (HCS.out _ HQ1.out.bx); clear hb)
            | (go_at_call 10; refine (HPUT.out _ _ HQ1.out).mono ?_; rintro e w7 ⟨rfl, hox, hsm⟩; have HQ2 := Lib.hid (HQ1.out.step hox hsm); have HCW2 := Lib.hid (HCS.out _ HQ2.out.bx); clear hox hsm)
            | (go_at_call 11; refine (HPUT2.out _ _ _ HQ2.out).mono ?_; unfold RetP; rw [HPB.out]; rintro e w8 ⟨rfl, vl', hd8, hf8, hv8⟩; have HQ3 := Lib.hid (HQ2.out.dstep hd8 hf8 hv8); clear hd8 hf8 hv8)
            | (with_reducible refine Hz.val_arm (o := ⟨some 41, .load _ _, _, _, _, _⟩) (by kernel_rfl) (Hz.ex_load_cells [.int .i64 i, .int .i64 a, .int .i64 z, .int .u64 d] rfl rfl HCW0.out Try.underlying34 rfl (by kernel_rfl)) ?_)
            | (with_reducible refine Hz.val_arm (o := ⟨some 45, .load _ _, _, _, _, _⟩) (by kernel_rfl) (Hz.ex_load_cells [.int .i64 i, .int .i64 a, .int .i64 z, .int .u64 d] rfl rfl HCW1.out Try.underlying34 rfl (by kernel_rfl)) ?_)
            | (with_reducible refine Hz.val_arm (o := ⟨some 50, .load _ _, _, _, _, _⟩) (by kernel_rfl) (Hz.ex_load_cells [.int .i64 i, .int .i64 a, .int .i64 z, .int .u64 d] rfl rfl HCW2.out Try.underlying34 rfl (by kernel_rfl)) ?_))
          go_meet
          case rel => exact ⟨_, _, _, (HTP.out _ rfl).1, by rw [hpe]; omega, HQ3, (HTP.out _ rfl).2⟩
        · have hkb0 : (kd == 0) = false := by simp [hk0]
          by_cases hk1' : kd = 1
          · subst hk1'
            have hpe := (barB_ep s).1
            have HBAR := Lib.hid (fun X vl (hX : LQ2 W g q b6 #[.int .i64 1, .int .i64 i, .int .i64 a, .int .i64 z, .int .u64 d] s D vl X) => hX.ox.bar (by omega))
            have hDE := HTI.out.ep
            have HBAR2 := Lib.hid (fun X vl s' (hX : LQ2 W g q b6 #[.int .i64 1, .int .i64 i, .int .i64 a, .int .i64 z, .int .u64 d] s' D vl X) => rbarrier_c hX.d (by omega) (by omega))
            have HTB := Lib.hid (HTI.out.barD HOK.out)
            have hbl2 : (barD D).l.length ≤ k + 1 := by
              unfold barD
              split
              · show D.l.length ≤ _; omega
              · omega
            go_wp2_with (first
              | (go_at_call 12; refine (HBAR.out _ _ HQ0.out).mono ?_; rintro e w6 ⟨rfl, hox, hsm⟩; have HQ1 := Lib.hid (HQ0.out.step hox hsm); clear hox hsm)
              | (go_at_call 13; refine (HBAR2.out _ _ _ HQ1.out).mono ?_; rintro e w7 ⟨rfl, hd7, hf7⟩; have HQ2 := Lib.hid (HQ1.out.dstep hd7 (fr_more hf7 (by simp)) (fun k hk => .inl hk)); clear hd7 hf7))
            go_meet
            case rel => exact ⟨_, _, _, hbl2, by push_cast; omega, HQ2, HTB⟩
          · have hkb1 : (kd == 1) = false := by simp [hk1']
            by_cases hk2' : kd = 2
            · subst hk2'
              have hpe := draB_ep s a
              have HDRA := Lib.hid (fun X vl (hX : LQ2 W g q b6 #[.int .i64 2, .int .i64 i, .int .i64 a, .int .i64 z, .int .u64 d] s D vl X) => hX.ox.dra a)
              have HDRA2 := Lib.hid (fun X vl s' (hX : LQ2 W g q b6 #[.int .i64 2, .int .i64 i, .int .i64 a, .int .i64 z, .int .u64 d] s' D vl X) => rdrain_c hX.d HTI.out HOK.out (by omega) a)
              have hol : (outB s a).length ≤ 8 := outB_le HOK.out a
              go_wp2_with (fail)
              go_cut [77] from 66 to 77 (fun sb wx => sb = .bool false ∧ ∃ (D' : Dbf) (vl' : Value), D'.l.length ≤ D.l.length ∧ Hid (LQ2 W g q b6 #[.int .i64 2, .int .i64 i, .int .i64 a, .int .i64 z, .int .u64 d] (draB s a) D' vl' wx) ∧ Hid (TI (draB s a) D'))
              case first =>
                refine wp_region_held (S := Blk #[.int .i64 2, .int .i64 i, .int .i64 a, .int .i64 z, .int .u64 d] 36 b6) (by kernel_rfl) ?_
                change wpAnyH _ _ _ _ _ _ _ _ (World.drew _)
                have HQ := HQ0.out.on (Below.drew (Below.refl _ _))
                have HS := HQ.bx
                clear HQ0
                generalize World.drew _ = w3 at *
                refine hk_val (i := 0) (oi := ⟨some 66, .move _, _, _, _, _⟩) (.pointer (some ⟨g, 0, none⟩)) rfl (by kernel_rfl) (by kernel_rfl) (by kernel_rfl) (fun _ _ _ h => h) (by kernel_rfl) (fun _ _ => rfl) HS ?_
                simp only [Act.put, List.setIfInBounds_toArray, List.set_cons_zero, List.set_cons_succ]
                refine hk_val (i := 1) (oi := ⟨some 67, .fieldAddr _ _ _, _, _, _, _⟩) (.pointer (some ⟨b6, 1, none⟩)) rfl (by kernel_rfl) (by kernel_rfl) (by kernel_rfl) (fun _ _ _ h => h) (by kernel_rfl) (fun _ _ => by kernel_rfl) HS ?_
                simp only [Act.put, List.setIfInBounds_toArray, List.set_cons_zero, List.set_cons_succ]
                refine hk_val (i := 2) (oi := ⟨some 68, .fieldAddr _ _ _, _, _, _, _⟩) (.pointer (some ⟨b6, 2, none⟩)) rfl (by kernel_rfl) (by kernel_rfl) (by kernel_rfl) (fun _ _ _ h => h) (by kernel_rfl) (fun _ _ => by kernel_rfl) HS ?_
                simp only [Act.put, List.setIfInBounds_toArray, List.set_cons_zero, List.set_cons_succ]
                refine hk_val (i := 3) (oi := ⟨some 69, .load _ _, _, _, _, _⟩) (.int .i64 a) rfl (by kernel_rfl) (by kernel_rfl) (by kernel_rfl) (fun _ _ _ h => h) (by kernel_rfl) (fun x hx => ex_load rfl rfl (hx.cell 2) (by kernel_rfl)) HS ?_
                simp only [Act.put, List.setIfInBounds_toArray, List.set_cons_zero, List.set_cons_succ]
                refine hk_val (i := 5) (oi := ⟨some 71, .move _, _, _, _, _⟩) (.pointer (some ⟨q, 0, none⟩)) rfl (by kernel_rfl) (by kernel_rfl) (by kernel_rfl) (fun _ _ _ h => h) (by kernel_rfl) (fun _ _ => rfl) HS ?_
                simp only [Act.put, List.setIfInBounds_toArray, List.set_cons_zero, List.set_cons_succ]
                refine hk_val (i := 6) (oi := ⟨some 72, .fieldAddr _ _ _, _, _, _, _⟩) (.pointer (some ⟨b6, 1, none⟩)) rfl (by kernel_rfl) (by kernel_rfl) (by kernel_rfl) (fun _ _ _ h => h) (by kernel_rfl) (fun _ _ => by kernel_rfl) HS ?_
                simp only [Act.put, List.setIfInBounds_toArray, List.set_cons_zero, List.set_cons_succ]
                refine hk_val (i := 7) (oi := ⟨some 73, .fieldAddr _ _ _, _, _, _, _⟩) (.pointer (some ⟨b6, 2, none⟩)) rfl (by kernel_rfl) (by kernel_rfl) (by kernel_rfl) (fun _ _ _ h => h) (by kernel_rfl) (fun _ _ => by kernel_rfl) HS ?_
                simp only [Act.put, List.setIfInBounds_toArray, List.set_cons_zero, List.set_cons_succ]
                refine hk_val (i := 8) (oi := ⟨some 74, .load _ _, _, _, _, _⟩) (.int .i64 a) rfl (by kernel_rfl) (by kernel_rfl) (by kernel_rfl) (fun _ _ _ h => h) (by kernel_rfl) (fun x hx => ex_load rfl rfl (hx.cell 2) (by kernel_rfl)) HS ?_
                simp only [Act.put, List.setIfInBounds_toArray, List.set_cons_zero, List.set_cons_succ]
                refine hk_call (i := 4) (oi := ⟨some 70, .call _, _, _, _, _⟩) (by kernel_rfl) rfl (by kernel_rfl) (by first | rfl | kernel_rfl) (HDRA.out _ _ HQ) ?_
                rintro e w7 ⟨⟨v7, rfl, ho7, hn7, hx7⟩, hsm7⟩
                obtain ⟨A7, c7, rfl⟩ := own_shape ho7
                have HQ7 := HQ.step (hx7 _ (fun r hr => .inl hr)) hsm7
                refine ⟨_, rfl, HQ7.bx, ?_⟩
                simp only [Act.put, List.setIfInBounds_toArray, List.set_cons_zero, List.set_cons_succ]
                refine hk_call (i := 9) (oi := ⟨some 75, .call _, _, _, _, _⟩) (by kernel_rfl) rfl (by kernel_rfl) (by first | rfl | kernel_rfl) (HDRA2.out _ _ _ HQ7) ?_
                unfold RetD
                rintro e w8 ⟨v8, vl8, D8, rfl, ho8, ht8, hl8, hd8, hf8, hv8⟩
                obtain ⟨A8, c8, rfl⟩ := own_shape ho8
                have HQ8 := HQ7.dstep hd8 (fr_more hf8 (by simp)) hv8
                have ho7b := hf8.row ho7 (fun i hi hm => hn7 i hi (by rw [List.mem_singleton.1 hm]; simp))
                refine ⟨_, rfl, HQ8.bx, ?_⟩
                simp only [Act.put, List.setIfInBounds_toArray, List.set_cons_zero, List.set_cons_succ]
                refine hk_call (i := 10) (oi := ⟨some 76, .call _, _, _, _, _⟩) (by kernel_rfl) rfl (by kernel_rfl) (by first | rfl | kernel_rfl) (sameWS_at A7 A8 c7 c8 _ (outB s a) _ rfl (by omega) (rd_own ho7b) (rd_own ho8)) ?_
                rintro e w9 ⟨rfl, hb9⟩
                have HQ9 := HQ8.on hb9
                refine ⟨_, rfl, HQ9.bx, ?_⟩
                simp only [Act.put, List.setIfInBounds_toArray, List.set_cons_zero, List.set_cons_succ]
                refine hk_val (i := 11) (oi := ⟨some 77, .unOp _ _ _, _, _, _, _⟩) (.bool false) rfl (by kernel_rfl) (by kernel_rfl) (by kernel_rfl) (fun _ _ _ h => h) (by kernel_rfl) (fun _ _ => rfl) HQ9.bx ?_
                simp only [Act.put, List.setIfInBounds_toArray, List.set_cons_zero, List.set_cons_succ]
                refine wpAnyH_done (by kernel_rfl) ?_ _
                go_wp2
                go_meet
                case rel => exact ⟨rfl, D8, vl8, hl8, HQ9, ht8⟩
              case rest =>
                obtain ⟨rfl, D', vl', hl', HQ9, HT9⟩ := hcut
                go_wp2
                go_meet
                case rel => exact ⟨_, D', vl', by omega, by rw [hpe]; omega, HQ9, HT9⟩
            · have hkb2 : (kd == 2) = false := by simp [hk2']
              go_wp2
              go_meet
              case rel => exact ⟨s, D, vl, by omega, by omega, HQ0, HTI⟩
      case rest =>
        obtain ⟨s', D', vl', hDk', hEk', HQ, HT⟩ := hcut
        clear HQ0 HOK HTI
        have hok' := HQ.out.ox.ok
        have HFI := Lib.hid (fun X (hX : LQ2 W g q b6 #[.int .i64 kd, .int .i64 i, .int .i64 a, .int .i64 z, .int .u64 d] s' D' vl' X) => hX.ox.find a)
        have HFI2 := Lib.hid (fun X (hX : LQ2 W g q b6 #[.int .i64 kd, .int .i64 i, .int .i64 a, .int .i64 z, .int .u64 d] s' D' vl' X) => rfind_c hX.d (by omega) (fun x hx => (HT.out.ok hok' hx).1) a (findB s' a) (fun i hi h1 h2 => HT.out.findHit hok' hi h1 h2) (fun h1 => HT.out.findNo hok' h1))
        have HOV := Lib.hid (fun X (hX : LQ2 W g q b6 #[.int .i64 kd, .int .i64 i, .int .i64 a, .int .i64 z, .int .u64 d] s' D' vl' X) => hX.ox.over a z)
        have HOV2 := Lib.hid (fun X (hX : LQ2 W g q b6 #[.int .i64 kd, .int .i64 i, .int .i64 a, .int .i64 z, .int .u64 d] s' D' vl' X) => rover_c hX.d (by omega) a z (ovB s' a z) (HT.out.over hok' a z))
        have HSM := Lib.hid (fun X (hX : LQ2 W g q b6 #[.int .i64 kd, .int .i64 i, .int .i64 a, .int .i64 z, .int .u64 d] s' D' vl' X) => same_c hX.ox hX.d HT.out (by omega))
        generalize ovB s' a z = ov at *
        obtain ⟨⟨fx, fi, fo⟩, hfr⟩ : ∃ r, findB s' a = r := ⟨_, rfl⟩
        rw [hfr] at HFI HFI2
        clear hfr hok'
        have e2 : World.cell? _ ⟨b6, 2, none⟩ = some (.int .i64 a) := HQ.out.bx.cell 2
        go_wp2_with (first
          | (go_at_call 17; refine (HFI.out _ HQ.out).mono ?_; unfold findV; rintro e w6 ⟨rfl, hb⟩; have HQ1 := Lib.hid (HQ.out.on hb); have e3 : w6.cell? ⟨b6, 2, none⟩ = some (.int .i64 a) := HQ1.out.bx.cell 2; clear hb)
          | (go_at_call 18; refine (HFI2.out _ HQ1.out).mono ?_; unfold findV; rintro e w7 ⟨rfl, hb⟩; have HQ2 := Lib.hid (HQ1.out.on hb); clear hb))
        go_cut [133] from 96 to 133 (fun sb wx => sb = .bool false ∧ Hid (LQ2 W g q b6 #[.int .i64 kd, .int .i64 i, .int .i64 a, .int .i64 z, .int .u64 d] s' D' vl' wx))
        case first =>
          refine wp_region_held (S := LQ2 W g q b6 #[.int .i64 kd, .int .i64 i, .int .i64 a, .int .i64 z, .int .u64 d] s' D' vl') (by kernel_rfl) ?_
          change wpAnyH _ _ _ _ _ _ _ _ (World.drew _)
          have HS := HQ2.out.on (Below.drew (Below.refl _ _))
          clear HQ HQ1 HQ2
          generalize World.drew _ = w3 at *
          refine hk_val (i := 0) (oi := ⟨some 96, .move _, _, _, _, _⟩) (.int .u8 fx) rfl (by kernel_rfl) (by kernel_rfl) (by kernel_rfl) (fun _ _ _ h => h) (by kernel_rfl) (fun _ _ => rfl) HS ?_
          simp only [Act.put, List.setIfInBounds_toArray, List.set_cons_zero, List.set_cons_succ]
          refine hk_val (i := 1) (oi := ⟨some 97, .move _, _, _, _, _⟩) (.int .u8 fx) rfl (by kernel_rfl) (by kernel_rfl) (by kernel_rfl) (fun _ _ _ h => h) (by kernel_rfl) (fun _ _ => rfl) HS ?_
          simp only [Act.put, List.setIfInBounds_toArray, List.set_cons_zero, List.set_cons_succ]
          refine hk_val (i := 2) (oi := ⟨some 98, .binOp _ _ _ _ _, _, _, _, _⟩) (.bool false) rfl (by kernel_rfl) (by kernel_rfl) (by kernel_rfl) (fun _ _ _ h => h) (by kernel_rfl) (fun _ _ => Hz.ex_neK rfl rfl rfl (by simp)) HS ?_
          simp only [Act.put, List.setIfInBounds_toArray, List.set_cons_zero, List.set_cons_succ]
          refine hk_val (i := 3) (oi := ⟨some 99, .move _, _, _, _, _⟩) (.bool false) rfl (by kernel_rfl) (by kernel_rfl) (by kernel_rfl) (fun _ _ _ h => h) (by kernel_rfl) (fun _ _ => rfl) HS ?_
          simp only [Act.put, List.setIfInBounds_toArray, List.set_cons_zero, List.set_cons_succ]
          refine hk_val (i := 4) (oi := ⟨some 100, .move _, _, _, _, _⟩) (.int .i64 fi) rfl (by kernel_rfl) (by kernel_rfl) (by kernel_rfl) (fun _ _ _ h => h) (by kernel_rfl) (fun _ _ => rfl) HS ?_
          simp only [Act.put, List.setIfInBounds_toArray, List.set_cons_zero, List.set_cons_succ]
          refine hk_val (i := 5) (oi := ⟨some 101, .move _, _, _, _, _⟩) (.int .i64 fi) rfl (by kernel_rfl) (by kernel_rfl) (by kernel_rfl) (fun _ _ _ h => h) (by kernel_rfl) (fun _ _ => rfl) HS ?_
          simp only [Act.put, List.setIfInBounds_toArray, List.set_cons_zero, List.set_cons_succ]
          refine hk_val (i := 6) (oi := ⟨some 102, .binOp _ _ _ _ _, _, _, _, _⟩) (.bool false) rfl (by kernel_rfl) (by kernel_rfl) (by kernel_rfl) (fun _ _ _ h => h) (by kernel_rfl) (fun _ _ => Hz.ex_neK rfl rfl rfl (by simp)) HS ?_
          simp only [Act.put, List.setIfInBounds_toArray, List.set_cons_zero, List.set_cons_succ]
          refine hk_val (i := 7) (oi := ⟨some 103, .pick _ _ _, _, _, _, _⟩) (.bool false) rfl (by kernel_rfl) (by kernel_rfl) (by kernel_rfl) (fun _ _ _ h => h) (by kernel_rfl) (fun _ _ => rfl) HS ?_
          simp only [Act.put, List.setIfInBounds_toArray, List.set_cons_zero, List.set_cons_succ]
          refine hk_val (i := 8) (oi := ⟨some 104, .move _, _, _, _, _⟩) (.bool false) rfl (by kernel_rfl) (by kernel_rfl) (by kernel_rfl) (fun _ _ _ h => h) (by kernel_rfl) (fun _ _ => rfl) HS ?_
          simp only [Act.put, List.setIfInBounds_toArray, List.set_cons_zero, List.set_cons_succ]
          refine hk_val (i := 9) (oi := ⟨some 105, .move _, _, _, _, _⟩) (.bool fo) rfl (by kernel_rfl) (by kernel_rfl) (by kernel_rfl) (fun _ _ _ h => h) (by kernel_rfl) (fun _ _ => rfl) HS ?_
          simp only [Act.put, List.setIfInBounds_toArray, List.set_cons_zero, List.set_cons_succ]
          refine hk_val (i := 10) (oi := ⟨some 106, .move _, _, _, _, _⟩) (.bool fo) rfl (by kernel_rfl) (by kernel_rfl) (by kernel_rfl) (fun _ _ _ h => h) (by kernel_rfl) (fun _ _ => rfl) HS ?_
          simp only [Act.put, List.setIfInBounds_toArray, List.set_cons_zero, List.set_cons_succ]
          refine hk_val (i := 11) (oi := ⟨some 107, .binOp _ _ _ _ _, _, _, _, _⟩) (.bool false) rfl (by kernel_rfl) (by kernel_rfl) (by kernel_rfl) (fun _ _ _ h => h) (by kernel_rfl) (fun _ _ => by cases fo <;> kernel_rfl) HS ?_
          simp only [Act.put, List.setIfInBounds_toArray, List.set_cons_zero, List.set_cons_succ]
          refine hk_val (i := 12) (oi := ⟨some 108, .pick _ _ _, _, _, _, _⟩) (.bool false) rfl (by kernel_rfl) (by kernel_rfl) (by kernel_rfl) (fun _ _ _ h => h) (by kernel_rfl) (fun _ _ => rfl) HS ?_
          simp only [Act.put, List.setIfInBounds_toArray, List.set_cons_zero, List.set_cons_succ]
          refine hk_val (i := 13) (oi := ⟨some 109, .move _, _, _, _, _⟩) (.bool false) rfl (by kernel_rfl) (by kernel_rfl) (by kernel_rfl) (fun _ _ _ h => h) (by kernel_rfl) (fun _ _ => rfl) HS ?_
          simp only [Act.put, List.setIfInBounds_toArray, List.set_cons_zero, List.set_cons_succ]
          refine hk_val (i := 14) (oi := ⟨some 110, .move _, _, _, _, _⟩) (.pointer (some ⟨g, 0, none⟩)) rfl (by kernel_rfl) (by kernel_rfl) (by kernel_rfl) (fun _ _ _ h => h) (by kernel_rfl) (fun _ _ => rfl) HS ?_
          simp only [Act.put, List.setIfInBounds_toArray, List.set_cons_zero, List.set_cons_succ]
          refine hk_val (i := 15) (oi := ⟨some 111, .fieldAddr _ _ _, _, _, _, _⟩) (.pointer (some ⟨b6, 1, none⟩)) rfl (by kernel_rfl) (by kernel_rfl) (by kernel_rfl) (fun _ _ _ h => h) (by kernel_rfl) (fun _ _ => by kernel_rfl) HS ?_
          simp only [Act.put, List.setIfInBounds_toArray, List.set_cons_zero, List.set_cons_succ]
          refine hk_val (i := 16) (oi := ⟨some 112, .fieldAddr _ _ _, _, _, _, _⟩) (.pointer (some ⟨b6, 2, none⟩)) rfl (by kernel_rfl) (by kernel_rfl) (by kernel_rfl) (fun _ _ _ h => h) (by kernel_rfl) (fun _ _ => by kernel_rfl) HS ?_
          simp only [Act.put, List.setIfInBounds_toArray, List.set_cons_zero, List.set_cons_succ]
          refine hk_val (i := 17) (oi := ⟨some 113, .load _ _, _, _, _, _⟩) (.int .i64 a) rfl (by kernel_rfl) (by kernel_rfl) (by kernel_rfl) (fun _ _ _ h => h) (by kernel_rfl) (fun x hx => ex_load rfl rfl (hx.bx.cell 2) (by kernel_rfl)) HS ?_
          simp only [Act.put, List.setIfInBounds_toArray, List.set_cons_zero, List.set_cons_succ]
          refine hk_val (i := 18) (oi := ⟨some 114, .fieldAddr _ _ _, _, _, _, _⟩) (.pointer (some ⟨b6, 1, none⟩)) rfl (by kernel_rfl) (by kernel_rfl) (by kernel_rfl) (fun _ _ _ h => h) (by kernel_rfl) (fun _ _ => by kernel_rfl) HS ?_
          simp only [Act.put, List.setIfInBounds_toArray, List.set_cons_zero, List.set_cons_succ]
          refine hk_val (i := 19) (oi := ⟨some 115, .fieldAddr _ _ _, _, _, _, _⟩) (.pointer (some ⟨b6, 3, none⟩)) rfl (by kernel_rfl) (by kernel_rfl) (by kernel_rfl) (fun _ _ _ h => h) (by kernel_rfl) (fun _ _ => by kernel_rfl) HS ?_
          simp only [Act.put, List.setIfInBounds_toArray, List.set_cons_zero, List.set_cons_succ]
          refine hk_val (i := 20) (oi := ⟨some 116, .load _ _, _, _, _, _⟩) (.int .i64 z) rfl (by kernel_rfl) (by kernel_rfl) (by kernel_rfl) (fun _ _ _ h => h) (by kernel_rfl) (fun x hx => ex_load rfl rfl (hx.bx.cell 3) (by kernel_rfl)) HS ?_
          simp only [Act.put, List.setIfInBounds_toArray, List.set_cons_zero, List.set_cons_succ]
          refine hk_val (i := 22) (oi := ⟨some 118, .move _, _, _, _, _⟩) (.pointer (some ⟨q, 0, none⟩)) rfl (by kernel_rfl) (by kernel_rfl) (by kernel_rfl) (fun _ _ _ h => h) (by kernel_rfl) (fun _ _ => rfl) HS ?_
          simp only [Act.put, List.setIfInBounds_toArray, List.set_cons_zero, List.set_cons_succ]
          refine hk_val (i := 23) (oi := ⟨some 119, .fieldAddr _ _ _, _, _, _, _⟩) (.pointer (some ⟨b6, 1, none⟩)) rfl (by kernel_rfl) (by kernel_rfl) (by kernel_rfl) (fun _ _ _ h => h) (by kernel_rfl) (fun _ _ => by kernel_rfl) HS ?_
          simp only [Act.put, List.setIfInBounds_toArray, List.set_cons_zero, List.set_cons_succ]
          refine hk_val (i := 24) (oi := ⟨some 120, .fieldAddr _ _ _, _, _, _, _⟩) (.pointer (some ⟨b6, 2, none⟩)) rfl (by kernel_rfl) (by kernel_rfl) (by kernel_rfl) (fun _ _ _ h => h) (by kernel_rfl) (fun _ _ => by kernel_rfl) HS ?_
          simp only [Act.put, List.setIfInBounds_toArray, List.set_cons_zero, List.set_cons_succ]
          refine hk_val (i := 25) (oi := ⟨some 121, .load _ _, _, _, _, _⟩) (.int .i64 a) rfl (by kernel_rfl) (by kernel_rfl) (by kernel_rfl) (fun _ _ _ h => h) (by kernel_rfl) (fun x hx => ex_load rfl rfl (hx.bx.cell 2) (by kernel_rfl)) HS ?_
          simp only [Act.put, List.setIfInBounds_toArray, List.set_cons_zero, List.set_cons_succ]
          refine hk_val (i := 26) (oi := ⟨some 122, .fieldAddr _ _ _, _, _, _, _⟩) (.pointer (some ⟨b6, 1, none⟩)) rfl (by kernel_rfl) (by kernel_rfl) (by kernel_rfl) (fun _ _ _ h => h) (by kernel_rfl) (fun _ _ => by kernel_rfl) HS ?_
          simp only [Act.put, List.setIfInBounds_toArray, List.set_cons_zero, List.set_cons_succ]
          refine hk_val (i := 27) (oi := ⟨some 123, .fieldAddr _ _ _, _, _, _, _⟩) (.pointer (some ⟨b6, 3, none⟩)) rfl (by kernel_rfl) (by kernel_rfl) (by kernel_rfl) (fun _ _ _ h => h) (by kernel_rfl) (fun _ _ => by kernel_rfl) HS ?_
          simp only [Act.put, List.setIfInBounds_toArray, List.set_cons_zero, List.set_cons_succ]
          refine hk_val (i := 28) (oi := ⟨some 124, .load _ _, _, _, _, _⟩) (.int .i64 z) rfl (by kernel_rfl) (by kernel_rfl) (by kernel_rfl) (fun _ _ _ h => h) (by kernel_rfl) (fun x hx => ex_load rfl rfl (hx.bx.cell 3) (by kernel_rfl)) HS ?_
          simp only [Act.put, List.setIfInBounds_toArray, List.set_cons_zero, List.set_cons_succ]
          refine hk_call (i := 21) (oi := ⟨some 117, .call _, _, _, _, _⟩) (by kernel_rfl) rfl (by kernel_rfl) (by first | rfl | kernel_rfl) (HOV.out _ HS) ?_
          rintro e w6 ⟨rfl, hb6⟩
          have HS6 := HS.on hb6
          refine ⟨_, rfl, HS6, ?_⟩
          simp only [Act.put, List.setIfInBounds_toArray, List.set_cons_zero, List.set_cons_succ]
          refine hk_call (i := 29) (oi := ⟨some 125, .call _, _, _, _, _⟩) (by kernel_rfl) rfl (by kernel_rfl) (by first | rfl | kernel_rfl) (HOV2.out _ HS6) ?_
          rintro e w7 ⟨rfl, hb7⟩
          have HS7 := HS6.on hb7
          refine ⟨_, rfl, HS7, ?_⟩
          simp only [Act.put, List.setIfInBounds_toArray, List.set_cons_zero, List.set_cons_succ]
          refine hk_val (i := 30) (oi := ⟨some 126, .binOp _ _ _ _ _, _, _, _, _⟩) (.bool false) rfl (by kernel_rfl) (by kernel_rfl) (by kernel_rfl) (fun _ _ _ h => h) (by kernel_rfl) (fun _ _ => by cases ov <;> kernel_rfl) HS7 ?_
          simp only [Act.put, List.setIfInBounds_toArray, List.set_cons_zero, List.set_cons_succ]
          refine hk_val (i := 31) (oi := ⟨some 127, .pick _ _ _, _, _, _, _⟩) (.bool false) rfl (by kernel_rfl) (by kernel_rfl) (by kernel_rfl) (fun _ _ _ h => h) (by kernel_rfl) (fun _ _ => rfl) HS7 ?_
          simp only [Act.put, List.setIfInBounds_toArray, List.set_cons_zero, List.set_cons_succ]
          refine hk_val (i := 32) (oi := ⟨some 128, .move _, _, _, _, _⟩) (.bool false) rfl (by kernel_rfl) (by kernel_rfl) (by kernel_rfl) (fun _ _ _ h => h) (by kernel_rfl) (fun _ _ => rfl) HS7 ?_
          simp only [Act.put, List.setIfInBounds_toArray, List.set_cons_zero, List.set_cons_succ]
          refine hk_val (i := 33) (oi := ⟨some 129, .move _, _, _, _, _⟩) (.pointer (some ⟨g, 0, none⟩)) rfl (by kernel_rfl) (by kernel_rfl) (by kernel_rfl) (fun _ _ _ h => h) (by kernel_rfl) (fun _ _ => rfl) HS7 ?_
          simp only [Act.put, List.setIfInBounds_toArray, List.set_cons_zero, List.set_cons_succ]
          refine hk_val (i := 34) (oi := ⟨some 130, .move _, _, _, _, _⟩) (.pointer (some ⟨q, 0, none⟩)) rfl (by kernel_rfl) (by kernel_rfl) (by kernel_rfl) (fun _ _ _ h => h) (by kernel_rfl) (fun _ _ => rfl) HS7 ?_
          simp only [Act.put, List.setIfInBounds_toArray, List.set_cons_zero, List.set_cons_succ]
          refine hk_call (i := 35) (oi := ⟨some 131, .call _, _, _, _, _⟩) (by kernel_rfl) rfl (by kernel_rfl) (by first | rfl | kernel_rfl) (HSM.out _ HS7) ?_
          rintro e w8 ⟨rfl, hb8⟩
          have HS8 := HS7.on hb8
          refine ⟨_, rfl, HS8, ?_⟩
          simp only [Act.put, List.setIfInBounds_toArray, List.set_cons_zero, List.set_cons_succ]
          refine hk_val (i := 36) (oi := ⟨some 132, .unOp _ _ _, _, _, _, _⟩) (.bool false) rfl (by kernel_rfl) (by kernel_rfl) (by kernel_rfl) (fun _ _ _ h => h) (by kernel_rfl) (fun _ _ => rfl) HS8 ?_
          simp only [Act.put, List.setIfInBounds_toArray, List.set_cons_zero, List.set_cons_succ]
          refine hk_val (i := 37) (oi := ⟨some 133, .pick _ _ _, _, _, _, _⟩) (.bool false) rfl (by kernel_rfl) (by kernel_rfl) (by kernel_rfl) (fun _ _ _ h => h) (by kernel_rfl) (fun _ _ => rfl) HS8 ?_
          simp only [Act.put, List.setIfInBounds_toArray, List.set_cons_zero, List.set_cons_succ]
          refine wpAnyH_done (by kernel_rfl) ?_ _
          go_wp2
          go_meet
          case rel => exact ⟨rfl, HS8⟩
        case rest =>
          obtain ⟨rfl, HQ9⟩ := hcut
          have HLN := Lib.hid (HQ9.out.back HT.out)
          clear HQ HQ1 HQ2 HQ9 HFI HFI2 HOV HOV2 HSM e2 e3
          go_wp2
          go_roundw
          case rel => exact ⟨k + 1, by omega, by omega, by first | rfl | go_num, s', D', vl', hDk', hEk', HLN⟩
          case measure => simp [intOf]; omega
    · have HSM := Lib.hid (fun X (hX : LL W g q s D vl X) => same_c hX.ox hX.d hX.ti (by omega))
      have hno : ¬ ((k : Int) < (l.length : Int)) ∨ ¬ ((k : Int) < 60) := by omega
      by_cases hkl : (k : Int) < (l.length : Int)
      · have hk60 : ¬ (k : Int) < 60 := by omega
        clear hno hc
        go_wp2_with (first
          | (go_at_call 8; refine (HAL.out _).mono ?_; rintro e w6 ⟨rfl, hb⟩; have HL1 := Lib.hid (HL.out.on hb); clear hb)
          | (go_at_call 21; refine (HSM.out _ HL1.out).mono ?_; rintro e w7 ⟨rfl, hb⟩; have HL2 := Lib.hid (HL1.out.on hb); clear hb))
        go_ret
        exact ⟨rfl, HL2.out.ox.low⟩
      · clear hno hc
        go_wp2_with (first
          | (go_at_call 8; refine (HAL.out _).mono ?_; rintro e w6 ⟨rfl, hb⟩; have HL1 := Lib.hid (HL.out.on hb); clear hb)
          | (go_at_call 21; refine (HSM.out _ HL1.out).mono ?_; rintro e w7 ⟨rfl, hb⟩; have HL2 := Lib.hid (HL1.out.on hb); clear hb))
        go_ret
        exact ⟨rfl, HL2.out.ox.low⟩
theorem sbufPlays_law (a0 : Option Addr) (c0 : Nat) (l0 : List At) (W : World) (m0 : l0.length ≤ c0) (b0 : c0 ≤ 9223372036854775807) (z0 : a0 = none → c0 = 0 ∧ l0 = []) (w0 : Wats l0) (r0 : Rd W W.heap.size a0 (cellsA l0)) :
    Calls Try.prog 3 #[.slice a0 l0.length c0] W fun e w' => e = .returned (.bool true) ∧ Below W.heap.size W w' := plays13_walk a0 c0 l0 W (by omega) w0 r0
end Go.Proofs.Ytcddgcchpmjdiaa
