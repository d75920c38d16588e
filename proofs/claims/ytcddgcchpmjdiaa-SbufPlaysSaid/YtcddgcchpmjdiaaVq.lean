/- The buffer: Put. -/
import Derived.Test.YtcddgcchpmjdiaaVo
import Derived.Great.BuildSlice
set_option maxRecDepth 100000
set_option linter.unusedVariables false
namespace Go.Proofs.Ytcddgcchpmjdiaa
open Go.RowKit

theorem BufAt.row_at {s : Bst} {p : Bpl} {w : World} (h : BufAt s p w) {k : Nat} (hk : k < s.es.length) : w.ownsRow 0 34 4 (svP p k) (s.es.getD k ent0).st.length (cellsW (s.es.getD k ent0).st) := by
  obtain ⟨hp, he⟩ := h.at_ hk
  have hsv : svP p k = p.es[k].2 := by
    unfold svP
    rw [List.getD_eq_getElem?_getD, List.getElem?_eq_getElem hp]
    rfl
  rw [hsv, getD_ent hk, ← he]
  exact h.each _ (List.getElem_mem _)
theorem BufAt.sv_cell {s : Bst} {p : Bpl} {w : World} (h : BufAt s p w) {k b cap : Nat} (hk : k < s.es.length) (hve : p.ve = .slice (some ⟨b, 0, none⟩) s.es.length cap) : w.cell? ⟨b, k * 2 + 1, none⟩ = some (svP p k) := by
  obtain ⟨A, cap', h1, h2⟩ := h.reads
  obtain ⟨b', h3, _, h4⟩ := h2 (by omega)
  rw [h1, h3] at hve
  cases hve
  exact (h4 k hk).2
theorem BufAt.keep8 {s : Bst} {p : Bpl} {w w1 : World} (h : BufAt s p w) {k b cap : Nat} (hk : k < s.es.length) (hve : p.ve = .slice (some ⟨b, 0, none⟩) s.es.length cap) (hg : w.grownBy w1 (svP p k).ownBlock) :
    w1.cell? ⟨b, k * 2 + 1, none⟩ = some (svP p k) ∧ w1.frozen? ⟨b, k * 2 + 1, none⟩ = false := by
  obtain ⟨hp, he⟩ := h.at_ hk
  have hsv : svP p k = p.es[k].2 := by
    unfold svP
    rw [List.getD_eq_getElem?_getD, List.getElem?_eq_getElem hp]
    rfl
  have hb : p.ve.ownBlock = some b := by rw [hve]; rfl
  have hne : some b ≠ (svP p k).ownBlock := fun e => h.parts.2.2.1 b hb _ (List.getElem_mem _) b (by rw [← hsv, ← e]) rfl
  refine ⟨hg.cell (h.sv_cell hk hve) hne, ?_⟩
  have hr := h.row
  rcases hr.2 with ⟨h1, _⟩ | ⟨g, cap', cur, hv, _, hgg, _⟩
  · rw [hve] at h1; cases h1
  · rw [hve] at hv
    cases hv
    have hb1 : Blk cur 60 b w1 := (hg.block b (Array.getElem?_eq_some_iff.1 hgg).1 hne).trans hgg
    exact hb1.free _
/-- Midway through Put. -/
structure PS (s1 : Bst) (p1 : Bpl) (W : World) (p : Bpl) (x : Wr) (w : World) : Prop where
  buf : BufAt s1 p1 w
  box : Blk (wrCells x) 34 W.heap.size w
  fr : Fr p.foot W w
  sub : ∀ i ∈ p1.foot, (i ∈ p.foot ∨ W.heap.size ≤ i) ∧ i ≠ W.heap.size
  g' : p1.g = p.g
  lt : ∀ i ∈ p.foot, i < W.heap.size
theorem PS.on {s1 : Bst} {p1 p : Bpl} {W w w' : World} {x : Wr} (h : PS s1 p1 W p x w) (k : BW w w') : PS s1 p1 W p x w' := ⟨h.buf.on k, h.box.on k, h.fr.on k, h.sub, h.g', h.lt⟩
theorem PS.drew {s1 : Bst} {p1 p : Bpl} {W w : World} {x : Wr} (h : PS s1 p1 W p x w) : PS s1 p1 W p x w.drew := h.on (Below.drew (Below.refl _ _))
theorem PS.zset {s1 : Bst} {p1 p : Bpl} {W w : World} {x : Wr} (h : PS s1 p1 W p x w) (D : Int) : PS s1 p1 W p ⟨x.id, x.addr, x.size, D⟩ (w.setCell ⟨W.heap.size, 3, none⟩ (.int .u64 D)) := by
  have hf : Fr [W.heap.size] w (w.setCell ⟨W.heap.size, 3, none⟩ (.int .u64 D)) := (Fr.refl _ _).setCell (.inl (by simp)) _
  exact ⟨h.buf.fr hf (fun i hi hm => (h.sub i hi).2 (by simpa using hm)), h.box.set 3 _, h.fr.setCell (.inr (Nat.le_refl _)) _, h.sub, h.g', h.lt⟩
theorem PS.grow {s : Bst} {p1 p : Bpl} {W w w1 : World} {x : Wr} (h : PS s p1 W p x w) {b cap : Nat} (hg : w.grownBy w1 p1.ve.ownBlock) (hat : p1.ve.ownBlock = some b ∨ b = w.heap.size)
    (ho : w1.ownsRow 0 60 2 (.slice (some ⟨b, 0, none⟩) (s.es.length + 1) cap) (s.es.length + 1) (cellsE p1.es ++ [.int .i64 s.ep, .slice none 0 0])) :
    ∃ p2 : Bpl, PS ⟨s.es ++ [⟨s.ep, []⟩], s.ep⟩ p2 W p x (w1.setCell ⟨p1.g, 0, none⟩ (.slice (some ⟨b, 0, none⟩) (s.es.length + 1) cap)) := by
  have hbx := h.box.lt
  have hvf : ∀ i, p1.ve.ownBlock = some i → i ∈ p1.foot := fun i hi => by rw [foot_eq]; simp [hi]
  have hgf : p1.g ∈ p1.foot := by rw [foot_eq]; simp
  have hset : Fr [p1.g] w1 (w1.setCell ⟨p1.g, 0, none⟩ (.slice (some ⟨b, 0, none⟩) (s.es.length + 1) cap)) := (Fr.refl _ _).setCell (.inl (by simp)) _
  refine ⟨_, h.buf.grow hg hat ho, ?_, ?_, ?_, h.g', h.lt⟩
  · refine hset.blk ((hg.block _ hbx (fun e => (h.sub _ (hvf _ e.symm)).2 rfl)).trans h.box) (fun hm => (h.sub _ hgf).2 (by simpa using (by simpa using hm : W.heap.size = p1.g).symm))
  · refine (h.fr.grown hg (fun i hi => (h.sub i (hvf i hi)).1)).setCell (h.sub _ hgf).1 _
  · intro i hi
    rw [foot_eq] at hi
    simp only [List.mem_cons, List.mem_append, List.flatMap_append, List.flatMap_cons, List.flatMap_nil] at hi
    rcases hi with hi | hi | hi | hi
    · exact h.sub i (by rw [hi]; exact hgf)
    · have hi' : b = i := (by simpa [Value.ownBlock] using hi : i = b).symm
      subst hi'
      rcases hat with hb | hb
      · exact h.sub b (hvf b hb)
      · have := h.fr.size; omega
    · exact h.sub i (by rw [foot_eq]; exact List.mem_cons_of_mem _ (List.mem_append.2 (.inr hi)))
    · simp [ownL, Value.ownBlock] at hi
theorem PS.put {s : Bst} {p1 p : Bpl} {W w w1 : World} {y : Wr} (h : PS s p1 W p y w) {k b cap gs cs m : Nat} (hk : k < s.es.length) (hve : p1.ve = .slice (some ⟨b, 0, none⟩) s.es.length cap) (hm : (s.es.getD k ent0).st.length = m)
    (hg : w.grownBy w1 (svP p1 k).ownBlock) (hat : (svP p1 k).ownBlock = some gs ∨ gs = w.heap.size)
    (ho : w1.ownsRow 0 34 4 (.slice (some ⟨gs, 0, none⟩) (m + 1) cs) (m + 1) (cellsW (s.es.getD k ent0).st ++ (wrCells y).toList)) :
    ∃ p' : Bpl, BufAt ⟨s.es.set k ⟨(s.es.getD k ent0).ep, (s.es.getD k ent0).st ++ [y]⟩, s.ep⟩ p' (w1.setCell ⟨b, k * 2 + 1, none⟩ (.slice (some ⟨gs, 0, none⟩) (m + 1) cs)) ∧ p'.g = p.g ∧
      (∀ i ∈ p'.foot, i ∈ p.foot ∨ W.heap.size ≤ i) ∧ Fr p.foot W (w1.setCell ⟨b, k * 2 + 1, none⟩ (.slice (some ⟨gs, 0, none⟩) (m + 1) cs)) := by
  subst hm
  obtain ⟨p', h1, h2, h3, h4⟩ := h.buf.put hk hve y hg hat ho
  refine ⟨p', h1, h2.trans h.g', fun i hi => ?_, h.fr.trans h4 (fun i hi => (h.sub i hi).1)⟩
  rcases h3 i hi with hi | hi
  · exact (h.sub i hi).1
  · right; have := h.fr.size; omega
/-- What Put leaves, and tells. -/
def RetPut (w : World) (s : Bst) (p : Bpl) (x : Wr) (e : Ending) (w' : World) : Prop :=
  e = .returned (.bool (placeN s x).2) ∧ ∃ p' : Bpl, BufAt (putB s x) p' w' ∧ p'.g = p.g ∧ (∀ i ∈ p'.foot, i ∈ p.foot ∨ w.heap.size ≤ i) ∧ Fr p.foot w w'
theorem getD_snoc (l : List Ent) (e : Ent) : (l ++ [e]).getD l.length ent0 = e := by simp [List.getD_eq_getElem?_getD]
theorem placeN_le {s : Bst} {x : Wr} : (placeN s x).1 ≤ s.es.length := by
  unfold placeN
  split
  · split
    · rename_i q hq
      have := (seekU_some hq).1
      split
      · show q.1 ≤ _; omega
      · exact Nat.le_refl _
    · exact Nat.le_refl _
  · exact Nat.zero_le _
theorem placeN_yes {s : Bst} {x : Wr} (h : (placeN s x).2 = true) : mayW x = true ∧ ((placeN s x).1 = s.es.length ∧ s.es.length < 4 ∨ (placeN s x).1 < s.es.length ∧ (s.es.getD (placeN s x).1 ent0).st.length < 8) := by
  unfold placeN at h ⊢
  split at h
  · rename_i hm
    rw [if_pos hm]
    refine ⟨hm, ?_⟩
    split at h
    · rename_i q hq
      try rw [hq]
      try dsimp only
      have hq1 := (seekU_some hq).1
      split at h
      · rename_i he
        rw [if_pos he]
        exact .inr ⟨hq1, by simpa using h⟩
      · rename_i he
        rw [if_neg he]
        exact .inl ⟨rfl, by simpa using h⟩
    · rename_i hq
      try rw [hq]
      exact .inl ⟨rfl, by simpa using h⟩
  · cases h
set_option maxHeartbeats 8000000 in
theorem put_c {s : Bst} {p : Bpl} {w : World} (h : BufAt s p w) (hok : BsOk s) (x : Wr) (hb : x.addr ≤ 9223372036854775807) (hd0 : 0 ≤ x.data) (hd1 : x.data < 2 ^ 64) :
    Calls Try.prog 10 #[.pointer (some ⟨p.g, 0, none⟩), .agg #[.int .i64 x.id, .int .i64 x.addr, .int .i64 x.size, .int .u64 x.data]] w (RetPut w s p x) := by
  have h1 : BW w (w.alloc (.cells (wrCells x) 34)) := BW.new (Below.refl _ _) _
  have HP := Lib.hid (fun X (hX : BW w X) => place_c (h.on hX) hok x hb)
  have hbx : Blk (wrCells x) 34 w.heap.size (w.alloc (.cells (wrCells x) 34)) := Blk.new _ _ _
  have hn4 := hok.len
  cases hpl : (placeN s x).2 with
  | false =>
    have HE := Lib.hid (fun (w' : World) (hX : BW w w') => (show RetPut w s p x (.returned (.bool false)) w' from ⟨by rw [hpl], p, by unfold putB; rw [if_neg (by rw [hpl]; decide)]; exact h.on hX, rfl, fun i hi => .inl hi, Fr.of _ hX⟩))
    rw [hpl] at HP
    clear hpl hb hd0 hd1
    generalize (placeN s x).1 = r at *
    obtain ⟨i, a, z, d⟩ := x
    dsimp only at *
    go_enter Try.func10, Try.ntmps10
    go_wp2_with (go_at_call 30; refine (HP.out _ h1).mono ?_; rintro e w2 ⟨rfl, hb2⟩)
    go_ret
    exact HE.out _ (h1.on hb2)
  | true =>
    obtain ⟨hmay, hcase⟩ := placeN_yes hpl
    obtain ⟨_, hz, ha0, _, ha1⟩ := mayW_out hmay
    have hPS := fun X (hX : BW w X) (hB : Blk (wrCells x) 34 w.heap.size X) => (show PS s p w p x X from ⟨h.on hX, hB, Fr.of _ hX, fun i hi => ⟨.inl hi, by have := h.lt i hi; omega⟩, rfl, h.lt⟩)
    obtain ⟨iw, hiw, hwz, hws, hwb⟩ := inf_parts (P := Try.prog) (e := 34) (z := .agg #[.int .i64 0, .int .i64 0, .int .i64 0, .int .u64 0]) (n := 4) (b := 32) (by kernel_rfl)
    have hzx := zext_any x.data (8 * x.size) hd0 hd1
    rw [show cap64 (8 * x.size) = 8 * x.size.toNat by unfold cap64; omega] at hzx
    have HZ := Lib.hid hzx
    clear hzx
    have HFIN0 := Lib.hid (show putB s x = (if (placeN s x).1 = s.es.length then ⟨s.es ++ [⟨s.ep, [low x]⟩], s.ep⟩ else ⟨s.es.set (placeN s x).1 ⟨(s.es.getD (placeN s x).1 ent0).ep, (s.es.getD (placeN s x).1 ent0).st ++ [low x]⟩, s.ep⟩) by unfold putB; rw [if_pos hpl])
    rcases hcase with ⟨hk, hlen⟩ | ⟨hk, hm8⟩
    · obtain ⟨ie, hie, hez, hes, heb⟩ := inf_parts (P := Try.prog) (e := 60) (z := .agg #[.int .i64 0, .slice none 0 0]) (n := 2) (b := 32) (by kernel_rfl)
      obtain ⟨A, cap, hve, _⟩ := h.reads
      rw [if_pos hk] at HFIN0
      obtain ⟨s1, hs1⟩ : ∃ s1 : Bst, s1 = ⟨s.es ++ [⟨s.ep, []⟩], s.ep⟩ := ⟨_, rfl⟩
      have HV := Lib.hid (show (∀ X (hX : PS s p w p x X), X.cell? ⟨p.g, 0, none⟩ = some (.slice A s.es.length cap)) ∧ (∀ X (hX : PS s p w p x X), X.cell? ⟨p.g, 1, none⟩ = some (.int .i64 s.ep)) from ⟨fun X hX => by rw [← hve]; exact hX.buf.head.cell 0, fun X hX => hX.buf.head.cell 1⟩)
      have HROW := Lib.hid (fun X (hX : PS s p w p x X) => (show X.ownsRow 0 60 2 (.slice A s.es.length cap) s.es.length (cellsE p.es) from by rw [← hve]; exact hX.buf.row))
      have HKEEP := Lib.hid (fun X Y (hX : PS s p w p x X) (hg : X.grownBy Y (Value.slice A s.es.length cap).ownBlock) => (show Y.cell? ⟨p.g, 0, none⟩ = some (.slice A s.es.length cap) ∧ Y.frozen? ⟨p.g, 0, none⟩ = false from by
        rw [← hve] at hg ⊢
        have hh : Blk #[p.ve, .int .i64 s.ep] 27 p.g Y := (hg.block p.g hX.buf.head.lt (fun e => h.parts.1 p.g e.symm rfl)).trans hX.buf.head
        exact ⟨hh.cell 0, hh.free 0⟩))
      have HGROW := Lib.hid (fun X Y gv cv (hX : PS s p w p x X) (hg : X.grownBy Y (Value.slice A s.es.length cap).ownBlock) (hat : (Value.slice A s.es.length cap).ownBlock = some gv ∨ gv = X.heap.size) (ho : Y.ownsRow 0 60 2 (.slice (some ⟨gv, 0, none⟩) (s.es.length + 1) cv) (s.es.length + 1) (cellsE p.es ++ [.int .i64 s.ep, .slice none 0 0])) =>
        (show ∃ p2 : Bpl, PS s1 p2 w p x (Y.setCell ⟨p.g, 0, none⟩ (.slice (some ⟨gv, 0, none⟩) (s.es.length + 1) cv)) from by rw [hs1]; exact hX.grow (by rw [hve]; exact hg) (by rw [hve]; exact hat) ho))
      have HFIN := Lib.hid (fun (w' : World) (hX : ∃ p' : Bpl, BufAt ⟨s1.es.set s.es.length ⟨(s1.es.getD s.es.length ent0).ep, (s1.es.getD s.es.length ent0).st ++ [⟨x.id, x.addr, x.size, zx x.data (8 * x.size.toNat)⟩]⟩, s1.ep⟩ p' w' ∧ p'.g = p.g ∧ (∀ i ∈ p'.foot, i ∈ p.foot ∨ w.heap.size ≤ i) ∧ Fr p.foot w w') => (show RetPut w s p x (.returned (.bool true)) w' from by
        obtain ⟨p', g1, g2⟩ := hX
        refine ⟨by rw [hpl], p', ?_, g2⟩
        rw [HFIN0.out]
        rw [hs1] at g1
        simp only [getD_snoc, List.nil_append, List.set_append_right _ _ (Nat.le_refl _), Nat.sub_self, List.set_cons_zero] at g1
        exact g1))
      have hn1 : s1.es.length = s.es.length + 1 := by rw [hs1]; simp
      have hst1 : (s1.es.getD s.es.length ent0).st = [] := by rw [hs1]; simp
      rw [hpl, hk] at HP
      have HPS := Lib.hid hPS
      clear hPS hpl hb hd0 hd1 hk hmay HFIN0 hs1 hve ha0 ha1 hok h
      obtain ⟨i, a, z, d⟩ := x
      dsimp only at *
      obtain ⟨D, hD⟩ : ∃ D, zx d (8 * z.toNat) = D := ⟨_, rfl⟩
      rw [hD] at HZ HFIN
      obtain ⟨g, hg⟩ : ∃ g, p.g = g := ⟨_, rfl⟩
      rw [hg] at HP HV HKEEP HGROW ⊢
      obtain ⟨n, hn⟩ : ∃ n, s.es.length = n := ⟨_, rfl⟩
      rw [hn] at HP HV HROW HKEEP HGROW HFIN hn1 hst1 hlen hn4
      obtain ⟨E, hE⟩ : ∃ E, s.ep = E := ⟨_, rfl⟩
      rw [hE] at HV HGROW
      have hzI : 1 ≤ z ∧ z ≤ 8 := by omega
      clear hz
      go_enter Try.func10, Try.ntmps10
      have HQ : Hid (∀ w2, BW (w.alloc (.cells #[.int .i64 i, .int .i64 a, .int .i64 z, .int .u64 d] 34)) w2 → w2.cell? ⟨g, 0, none⟩ = some (.slice A n cap)) := Lib.hid (fun w2 hb2 => HV.out.1 _ (HPS.out _ (h1.on hb2) (hbx.on hb2)))
      go_upto_region 5 with (first
        | (go_at_call 30; refine (HP.out _ h1).mono ?_; rintro e w2 ⟨rfl, hb2⟩; have q2 := HQ.out _ hb2))
      have HS := Lib.hid ((HPS.out _ (h1.on hb2) (hbx.on hb2)).drew)
      clear q2 hb2 HQ HPS HP
      refine wp_region_P (S := PS s p w p ⟨i, a, z, d⟩) (c := 11) (by kernel_rfl) ?_
      change wpAnyP _ _ _ _ _ _ _ _ _ (World.drew _)
      generalize World.drew _ = w3 at *
      refine hp_any (i := 0) (oi := ⟨some 23, .move _, _, _, _, _⟩) (.pointer (some ⟨g, 0, none⟩)) rfl (by kernel_rfl) (by kernel_rfl) (by kernel_rfl) (by decide) (fun _ _ _ h => h) (by kernel_rfl) (fun _ => rfl) HS.out ?_
      simp only [Act.put, List.setIfInBounds_toArray, List.set_cons_zero, List.set_cons_succ]
      refine hp_val (i := 1) (oi := ⟨some 24, .move _, _, _, _, _⟩) [2, 3, 4, 11] (.pointer (some ⟨g, 0, none⟩)) rfl (by kernel_rfl) (by kernel_rfl) (by kernel_rfl) (by kernel_rfl) (by kernel_rfl) rfl (fun _ _ _ h => h) (by kernel_rfl) (fun _ _ => rfl) HS.out ?_
      simp only [Act.put, List.setIfInBounds_toArray, List.set_cons_zero, List.set_cons_succ]
      refine hp_val (i := 2) (oi := ⟨some 25, .nilCheck _, _, _, _, _⟩) [3, 4, 11] (.pointer (some ⟨g, 0, none⟩)) rfl (by kernel_rfl) (by kernel_rfl) (by kernel_rfl) (by kernel_rfl) (by kernel_rfl) rfl (fun _ _ _ h => h) (by kernel_rfl) (fun _ _ => rfl) HS.out ?_
      simp only [Act.put, List.setIfInBounds_toArray, List.set_cons_zero, List.set_cons_succ]
      refine hp_val (i := 3) (oi := ⟨some 26, .fieldAddr _ _ _, _, _, _, _⟩) [4, 11] (.pointer (some ⟨g, 0, none⟩)) rfl (by kernel_rfl) (by kernel_rfl) (by kernel_rfl) (by kernel_rfl) (by kernel_rfl) rfl (fun _ _ _ h => h) (by kernel_rfl) (fun _ _ => by kernel_rfl) HS.out ?_
      simp only [Act.put, List.setIfInBounds_toArray, List.set_cons_zero, List.set_cons_succ]
      refine hp_val (i := 4) (oi := ⟨some 27, .load _ _, _, _, _, _⟩) [11] (.slice A n cap) rfl (by kernel_rfl) (by kernel_rfl) (by kernel_rfl) (by kernel_rfl) (by kernel_rfl) rfl (fun _ _ _ h => h) (by kernel_rfl) (fun x hx => ex_load rfl rfl (HV.out.1 x hx) (by kernel_rfl)) HS.out ?_
      simp only [Act.put, List.setIfInBounds_toArray, List.set_cons_zero, List.set_cons_succ]
      refine hp_val (i := 5) (oi := ⟨some 28, .move _, _, _, _, _⟩) [6, 7, 8, 9, 10, 11] (.pointer (some ⟨g, 0, none⟩)) rfl (by kernel_rfl) (by kernel_rfl) (by kernel_rfl) (by kernel_rfl) (by kernel_rfl) rfl (fun _ _ _ h => h) (by kernel_rfl) (fun _ _ => rfl) HS.out ?_
      simp only [Act.put, List.setIfInBounds_toArray, List.set_cons_zero, List.set_cons_succ]
      refine hp_val (i := 6) (oi := ⟨some 29, .nilCheck _, _, _, _, _⟩) [7, 8, 9, 10, 11] (.pointer (some ⟨g, 0, none⟩)) rfl (by kernel_rfl) (by kernel_rfl) (by kernel_rfl) (by kernel_rfl) (by kernel_rfl) rfl (fun _ _ _ h => h) (by kernel_rfl) (fun _ _ => rfl) HS.out ?_
      simp only [Act.put, List.setIfInBounds_toArray, List.set_cons_zero, List.set_cons_succ]
      refine hp_val (i := 7) (oi := ⟨some 30, .fieldAddr _ _ _, _, _, _, _⟩) [8, 9, 10, 11] (.pointer (some ⟨g, 1, none⟩)) rfl (by kernel_rfl) (by kernel_rfl) (by kernel_rfl) (by kernel_rfl) (by kernel_rfl) rfl (fun _ _ _ h => h) (by kernel_rfl) (fun _ _ => by kernel_rfl) HS.out ?_
      simp only [Act.put, List.setIfInBounds_toArray, List.set_cons_zero, List.set_cons_succ]
      refine hp_val (i := 8) (oi := ⟨some 31, .load _ _, _, _, _, _⟩) [9, 10, 11] (.int .i64 E) rfl (by kernel_rfl) (by kernel_rfl) (by kernel_rfl) (by kernel_rfl) (by kernel_rfl) rfl (fun _ _ _ h => h) (by kernel_rfl) (fun x hx => ex_load rfl rfl (HV.out.2 x hx) (by kernel_rfl)) HS.out ?_
      simp only [Act.put, List.setIfInBounds_toArray, List.set_cons_zero, List.set_cons_succ]
      refine hp_val (i := 9) (oi := ⟨some 32, .build _ _, _, _, _, _⟩) [10, 11] (.agg #[.int .i64 E, .slice none 0 0]) rfl (by kernel_rfl) (by kernel_rfl) (by kernel_rfl) (by kernel_rfl) (by kernel_rfl) rfl (fun _ _ _ h => h) (by kernel_rfl) (fun _ _ => by kernel_rfl) HS.out ?_
      simp only [Act.put, List.setIfInBounds_toArray, List.set_cons_zero, List.set_cons_succ]
      refine hp_one (i := 10) (oi := ⟨some 33, .buildSlice _ _ _, _, _, _, _⟩) (by kernel_rfl) rfl (by kernel_rfl) ?_
      refine Go.wp_buildSlice 25 60 1 _ rfl #[.int .i64 E, .slice none 0 0] ie _ Try.underlying25 hie hez (by rw [hes]; decide) (by rw [hes]; decide) (by rw [hes]; kernel_rfl) ?_
      have HS1 := Lib.hid (HS.out.on (BW.new (Below.refl w3.heap.size w3) (.cells #[.int .i64 E, .slice none 0 0] 60)))
      refine ⟨HS1.out, ?_⟩
      have hnew : (w3.alloc (.cells #[.int .i64 E, .slice none 0 0] 60)).heap[w3.heap.size]? = some (.cells #[.int .i64 E, .slice none 0 0] 60 (0, 0)) := Blk.new _ _ _
      simp only [Act.put, List.setIfInBounds_toArray, List.set_cons_zero, List.set_cons_succ]
      refine hp_last (i := 11) (oi := ⟨some 34, .call _, _, _, _, _⟩) (by kernel_rfl) rfl (by kernel_rfl) (by kernel_rfl) ?_
      refine wp_append_lies _ (.tmp 27) (.tmp 33) 25 rfl 0 60 ie _ 2 32 Try.underlying25 hie hez hes heb rfl (by decide) (.slice A n cap) n (cellsE p.es) rfl (HROW.out _ HS1.out) ⟨w3.heap.size, 0, none⟩ 1 1 [.int .i64 E, .slice none 0 0] rfl rfl (World.news_of_block hnew) (by intro u hu; simp at hu; rcases hu with rfl | rfl <;> rfl) (by decide) (by unfold maxLen; omega) (by omega) (Nat.zero_le _) _ rfl ?_
      intro gv cv w4 ho4 hg4 hgv hlt4
      clear hnew
      simp only [Act.put, List.setIfInBounds_toArray, List.set_cons_zero, List.set_cons_succ]
      refine hk_val (i := 12) (oi := ⟨some 35, .nilCheck _, _, _, _, _⟩) (.pointer (some ⟨g, 0, none⟩)) rfl (by kernel_rfl) (by kernel_rfl) (by kernel_rfl) (fun _ _ _ h => h) (by kernel_rfl) (fun _ _ => rfl) trivial ?_
      simp only [Act.put, List.setIfInBounds_toArray, List.set_cons_zero, List.set_cons_succ]
      refine hk_val (i := 13) (oi := ⟨some 36, .fieldAddr _ _ _, _, _, _, _⟩) (.pointer (some ⟨g, 0, none⟩)) rfl (by kernel_rfl) (by kernel_rfl) (by kernel_rfl) (fun _ _ _ h => h) (by kernel_rfl) (fun _ _ => by kernel_rfl) trivial ?_
      simp only [Act.put, List.setIfInBounds_toArray, List.set_cons_zero, List.set_cons_succ]
      refine hk_one (i := 14) (oi := ⟨none, .store _ _ _, _, _, _, _⟩) (by kernel_rfl) rfl (by kernel_rfl) ?_
      obtain ⟨q4, f4⟩ := HKEEP.out _ _ HS1.out hg4
      refine wp_store_one (v := .slice (some ⟨gv, 0, none⟩) (n + 1) cv) rfl rfl rfl rfl q4 f4 (by kernel_rfl) rfl rfl ?_
      refine ⟨trivial, ?_⟩
      have HX := Lib.hid (HGROW.out _ _ _ _ HS1.out hg4 hgv ho4)
      clear q4 f4 ho4 hg4 hgv HS1 hlt4 HS
      generalize World.setCell _ _ _ = x5 at *
      refine wpAnyH_done (by kernel_rfl) ?_ _
      obtain ⟨p1, hx5⟩ := HX.out
      clear HX
      have HX := Lib.hid hx5
      clear hx5 HV HROW HKEEP HGROW
      obtain ⟨n1, hn1'⟩ : ∃ n1, n + 1 = n1 := ⟨_, rfl⟩
      rw [hn1'] at hn1
      obtain ⟨stk, hstk'⟩ : ∃ stk, (s1.es.getD n ent0).st = stk := ⟨_, rfl⟩
      obtain ⟨m, hstm⟩ : ∃ m, (s1.es.getD n ent0).st.length = m := ⟨_, rfl⟩
      have hstk := hstm
      have hstm' := hstm
      have hm0 : m < 8 := by rw [← hstm, hst1]; decide
      clear hst1
      obtain ⟨b1, cap1, hve1⟩ : ∃ b1 cap1, p1.ve = .slice (some ⟨b1, 0, none⟩) n1 cap1 := by
        obtain ⟨A1, cap1, h1, h2⟩ := HX.out.buf.reads
        obtain ⟨b1, h3, _⟩ := h2 (by rw [hn1]; omega)
        exact ⟨b1, cap1, by rw [h1, h3, hn1]⟩
      obtain ⟨Ak, ck, hvk⟩ : ∃ Ak ck, svP p1 n = .slice Ak m ck := by
        obtain ⟨Ak, ck, h1⟩ := own_shape (HX.out.buf.row_at (k := n) (by rw [hn1]; omega))
        exact ⟨Ak, ck, by rw [h1, hstk]⟩
      have HY := Lib.hid (HX.out.zset D)
      have e2 : x5.cell? ⟨w.heap.size, 2, none⟩ = some (.int .i64 z) := HX.out.box.cell 2
      have e3 : x5.cell? ⟨w.heap.size, 3, none⟩ = some (.int .u64 d) := HX.out.box.cell 3
      have fe3 := HX.out.box.free 3
      have e6 : (x5.setCell ⟨w.heap.size, 3, none⟩ (.int .u64 D)).cell? ⟨g, 0, none⟩ = some (.slice (some ⟨b1, 0, none⟩) n1 cap1) := by rw [← hve1, ← hg, ← HX.out.g']; exact HY.out.buf.head.cell 0
      have HV8 := Lib.hid (fun X (hX : PS s1 p1 w p ⟨i, a, z, D⟩ X) => (show X.cell? ⟨b1, n * 2 + 1, none⟩ = some (.slice Ak m ck) from by rw [← hvk]; exact hX.buf.sv_cell (by rw [hn1]; omega) (by rw [hve1, hn1])))
      have HROW8 := Lib.hid (fun X (hX : PS s1 p1 w p ⟨i, a, z, D⟩ X) => (show X.ownsRow 0 34 4 (.slice Ak m ck) m (cellsW stk) from by rw [← hvk, ← hstm, ← hstk']; exact hX.buf.row_at (by rw [hn1]; omega)))
      have HKEEP8 := Lib.hid (fun X Y (hX : PS s1 p1 w p ⟨i, a, z, D⟩ X) (hg : X.grownBy Y (Value.slice Ak m ck).ownBlock) => hX.buf.keep8 (k := n) (b := b1) (cap := cap1) (by rw [hn1]; omega) (by rw [hve1, hn1]) (by rw [hvk]; exact hg))
      have HPUT := Lib.hid (fun X Y gs cs (hX : PS s1 p1 w p ⟨i, a, z, D⟩ X) (hg : X.grownBy Y (Value.slice Ak m ck).ownBlock) (hat : (Value.slice Ak m ck).ownBlock = some gs ∨ gs = X.heap.size) (ho : Y.ownsRow 0 34 4 (.slice (some ⟨gs, 0, none⟩) (m + 1) cs) (m + 1) (cellsW stk ++ (wrCells ⟨i, a, z, D⟩).toList)) =>
        hX.put (k := n) (b := b1) (cap := cap1) (gs := gs) (cs := cs) (m := m) (by rw [hn1]; omega) (by rw [hve1, hn1]) hstm' (by rw [hvk]; exact hg) (by rw [hvk]; exact hat) (by rw [hstk']; exact ho))
      have hKI : (0 : Int) ≤ ((n : Nat) : Int) ∧ ((n : Nat) : Int) < (n1 : Int) := by omega
      clear HX
      go_upto_region 8 with (first
        | (go_at_call 31; refine (HZ.out _).mono ?_; rintro e w7 ⟨rfl, rfl⟩))
      clear e2 e3 fe3 e6
      have HT := Lib.hid HY.out.drew
      clear HY
      refine wp_region_P (S := PS s1 p1 w p ⟨i, a, z, D⟩) (c := 7) (by kernel_rfl) ?_
      change wpAnyP _ _ _ _ _ _ _ _ _ (World.drew _)
      generalize World.drew _ = w8 at *
      refine hp_any (i := 0) (oi := ⟨some 50, .move _, _, _, _, _⟩) (.pointer (some ⟨b1, n * 2, none⟩)) rfl (by kernel_rfl) (by kernel_rfl) (by kernel_rfl) (by decide) (fun _ _ _ h => h) (by kernel_rfl) (fun _ => rfl) HT.out ?_
      simp only [Act.put, List.setIfInBounds_toArray, List.set_cons_zero, List.set_cons_succ]
      refine hp_val (i := 1) (oi := ⟨some 51, .move _, _, _, _, _⟩) [2, 3, 4, 7] (.pointer (some ⟨b1, n * 2, none⟩)) rfl (by kernel_rfl) (by kernel_rfl) (by kernel_rfl) (by kernel_rfl) (by kernel_rfl) rfl (fun _ _ _ h => h) (by kernel_rfl) (fun _ _ => rfl) HT.out ?_
      simp only [Act.put, List.setIfInBounds_toArray, List.set_cons_zero, List.set_cons_succ]
      refine hp_val (i := 2) (oi := ⟨some 52, .nilCheck _, _, _, _, _⟩) [3, 4, 7] (.pointer (some ⟨b1, n * 2, none⟩)) rfl (by kernel_rfl) (by kernel_rfl) (by kernel_rfl) (by kernel_rfl) (by kernel_rfl) rfl (fun _ _ _ h => h) (by kernel_rfl) (fun _ _ => rfl) HT.out ?_
      simp only [Act.put, List.setIfInBounds_toArray, List.set_cons_zero, List.set_cons_succ]
      refine hp_val (i := 3) (oi := ⟨some 53, .fieldAddr _ _ _, _, _, _, _⟩) [4, 7] (.pointer (some ⟨b1, n * 2 + 1, none⟩)) rfl (by kernel_rfl) (by kernel_rfl) (by kernel_rfl) (by kernel_rfl) (by kernel_rfl) rfl (fun _ _ _ h => h) (by kernel_rfl) (fun _ _ => by kernel_rfl) HT.out ?_
      simp only [Act.put, List.setIfInBounds_toArray, List.set_cons_zero, List.set_cons_succ]
      refine hp_val (i := 4) (oi := ⟨some 54, .load _ _, _, _, _, _⟩) [7] (.slice Ak m ck) rfl (by kernel_rfl) (by kernel_rfl) (by kernel_rfl) (by kernel_rfl) (by kernel_rfl) rfl (fun _ _ _ h => h) (by kernel_rfl) (fun x hx => ex_load rfl rfl (HV8.out x hx) (by kernel_rfl)) HT.out ?_
      simp only [Act.put, List.setIfInBounds_toArray, List.set_cons_zero, List.set_cons_succ]
      refine hp_load (i := 5) (oi := ⟨some 55, .load _ _, _, _, _, _⟩) [6, 7] rfl (by kernel_rfl) (by kernel_rfl) (by kernel_rfl) (by kernel_rfl) (by kernel_rfl) rfl (fun _ _ _ h => h) (by kernel_rfl) _ _ rfl rfl (fun _ h => h.box) Try.underlying34 rfl (by kernel_rfl) HT.out ?_
      simp only [Act.put, List.setIfInBounds_toArray, List.set_cons_zero, List.set_cons_succ]
      refine hp_one (i := 6) (oi := ⟨some 56, .buildSlice _ _ _, _, _, _, _⟩) (by kernel_rfl) rfl (by kernel_rfl) ?_
      refine Go.wp_buildSlice 39 34 1 _ rfl #[.int .i64 i, .int .i64 a, .int .i64 z, .int .u64 D] iw _ Try.underlying39 hiw hwz (by rw [hws]; decide) (by rw [hws]; decide) (by rw [hws]; kernel_rfl) ?_
      have HT1 := Lib.hid (HT.out.on (BW.new (Below.refl w8.heap.size w8) (.cells #[.int .i64 i, .int .i64 a, .int .i64 z, .int .u64 D] 34)))
      refine ⟨HT1.out, ?_⟩
      have hnew : (w8.alloc (.cells #[.int .i64 i, .int .i64 a, .int .i64 z, .int .u64 D] 34)).heap[w8.heap.size]? = some (.cells #[.int .i64 i, .int .i64 a, .int .i64 z, .int .u64 D] 34 (0, 0)) := Blk.new _ _ _
      simp only [Act.put, List.setIfInBounds_toArray, List.set_cons_zero, List.set_cons_succ]
      refine hp_last (i := 7) (oi := ⟨some 57, .call _, _, _, _, _⟩) (by kernel_rfl) rfl (by kernel_rfl) (by kernel_rfl) ?_
      refine wp_append_lies _ (.tmp 54) (.tmp 56) 39 rfl 0 34 iw _ 4 32 Try.underlying39 hiw hwz hws hwb rfl (by decide) (.slice Ak m ck) m (cellsW stk) rfl (HROW8.out _ HT1.out) ⟨w8.heap.size, 0, none⟩ 1 1 (wrCells ⟨i, a, z, D⟩).toList rfl rfl (World.news_of_block hnew) (by intro u hu; simp [wrCells] at hu; rcases hu with rfl | rfl | rfl | rfl <;> rfl) (by decide) (by unfold maxLen; omega) (by omega) (Nat.zero_le _) _ rfl ?_
      intro gs cs w9 ho9 hg9 hgs hlt9
      clear hnew
      simp only [Act.put, List.setIfInBounds_toArray, List.set_cons_zero, List.set_cons_succ]
      refine hk_val (i := 8) (oi := ⟨some 58, .nilCheck _, _, _, _, _⟩) (.pointer (some ⟨b1, n * 2, none⟩)) rfl (by kernel_rfl) (by kernel_rfl) (by kernel_rfl) (fun _ _ _ h => h) (by kernel_rfl) (fun _ _ => rfl) trivial ?_
      simp only [Act.put, List.setIfInBounds_toArray, List.set_cons_zero, List.set_cons_succ]
      refine hk_val (i := 9) (oi := ⟨some 59, .fieldAddr _ _ _, _, _, _, _⟩) (.pointer (some ⟨b1, n * 2 + 1, none⟩)) rfl (by kernel_rfl) (by kernel_rfl) (by kernel_rfl) (fun _ _ _ h => h) (by kernel_rfl) (fun _ _ => by kernel_rfl) trivial ?_
      simp only [Act.put, List.setIfInBounds_toArray, List.set_cons_zero, List.set_cons_succ]
      refine hk_one (i := 10) (oi := ⟨none, .store _ _ _, _, _, _, _⟩) (by kernel_rfl) rfl (by kernel_rfl) ?_
      obtain ⟨q9, f9⟩ := HKEEP8.out _ _ HT1.out hg9
      refine wp_store_one (v := .slice (some ⟨gs, 0, none⟩) (m + 1) cs) rfl rfl rfl rfl q9 f9 (by kernel_rfl) rfl rfl ?_
      refine ⟨trivial, ?_⟩
      have HX8 := Lib.hid (HPUT.out _ _ _ _ HT1.out hg9 hgs ho9)
      clear q9 f9 ho9 hg9 hgs HT1 hlt9 HT
      generalize World.setCell _ _ _ = x9 at *
      refine wpAnyH_done (by kernel_rfl) ?_ _
      go_wp2
      go_ret
      first
        | exact HFIN.out _ HX8.out
        | (subst hs1; exact HFIN.out _ HX8.out)
    · rw [if_neg (by omega)] at HFIN0
      obtain ⟨k, hkk⟩ : ∃ k, (placeN s x).1 = k := ⟨_, rfl⟩
      rw [hkk] at HFIN0 hk hm8
      have HFIN := Lib.hid (fun (w' : World) (hX : ∃ p' : Bpl, BufAt ⟨s.es.set k ⟨(s.es.getD k ent0).ep, (s.es.getD k ent0).st ++ [⟨x.id, x.addr, x.size, zx x.data (8 * x.size.toNat)⟩]⟩, s.ep⟩ p' w' ∧ p'.g = p.g ∧ (∀ i ∈ p'.foot, i ∈ p.foot ∨ w.heap.size ≤ i) ∧ Fr p.foot w w') => (show RetPut w s p x (.returned (.bool true)) w' from by
        obtain ⟨p', g1, g2⟩ := hX
        refine ⟨by rw [hpl], p', ?_, g2⟩
        rw [HFIN0.out]
        exact g1))
      obtain ⟨A, cap, hve, _⟩ := h.reads
      have HV := Lib.hid (fun X (hX : PS s p w p x X) => (show X.cell? ⟨p.g, 0, none⟩ = some (.slice A s.es.length cap) from by rw [← hve]; exact hX.buf.head.cell 0))
      rw [hpl, hkk] at HP
      have HPS := Lib.hid hPS
      clear hPS hpl hb hd0 hd1 hmay HFIN0 hve ha0 ha1 hok h hkk
      obtain ⟨i, a, z, d⟩ := x
      dsimp only at *
      obtain ⟨D, hD⟩ : ∃ D, zx d (8 * z.toNat) = D := ⟨_, rfl⟩
      rw [hD] at HZ HFIN
      obtain ⟨g, hg⟩ : ∃ g, p.g = g := ⟨_, rfl⟩
      rw [hg] at HP HV ⊢
      have hzI : 1 ≤ z ∧ z ≤ 8 := by omega
      clear hz
      obtain ⟨n1, hn1⟩ : ∃ n1, s.es.length = n1 := ⟨_, rfl⟩
      rw [hn1] at HV hk hn4
      have hkn : ¬ (k : Int) = (n1 : Int) := by omega
      obtain ⟨p1, hp1⟩ : ∃ p1, p = p1 := ⟨_, rfl⟩
      obtain ⟨s1, hs1⟩ : ∃ s1, s = s1 := ⟨_, rfl⟩
      go_enter Try.func10, Try.ntmps10
      have HQ : Hid (∀ w2, BW (w.alloc (.cells #[.int .i64 i, .int .i64 a, .int .i64 z, .int .u64 d] 34)) w2 → w2.cell? ⟨g, 0, none⟩ = some (.slice A n1 cap)) := Lib.hid (fun w2 hb2 => HV.out _ (HPS.out _ (h1.on hb2) (hbx.on hb2)))
      go_upto_region 6 with (first
        | (go_at_call 30; refine (HP.out _ h1).mono ?_; rintro e w2 ⟨rfl, hb2⟩; have q2 := HQ.out _ hb2))
      have hx5 : PS s1 p1 w p ⟨i, a, z, d⟩ w2 := by rw [← hp1, ← hs1]; exact HPS.out _ (h1.on hb2) (hbx.on hb2)
      clear q2 HQ HPS HP HV hb2
      rw [hs1] at HFIN hn1 hm8
      clear hp1
      have HX := Lib.hid hx5
      clear hx5
      generalize w2 = x5 at *
      obtain ⟨stk, hstk'⟩ : ∃ stk, (s1.es.getD k ent0).st = stk := ⟨_, rfl⟩
      obtain ⟨m, hstm⟩ : ∃ m, (s1.es.getD k ent0).st.length = m := ⟨_, rfl⟩
      have hstk := hstm
      have hstm' := hstm
      have hm0 : m < 8 := by omega
      obtain ⟨b1, cap1, hve1⟩ : ∃ b1 cap1, p1.ve = .slice (some ⟨b1, 0, none⟩) n1 cap1 := by
        obtain ⟨A1, cap1, h1, h2⟩ := HX.out.buf.reads
        obtain ⟨b1, h3, _⟩ := h2 (by rw [hn1]; omega)
        exact ⟨b1, cap1, by rw [h1, h3, hn1]⟩
      obtain ⟨Ak, ck, hvk⟩ : ∃ Ak ck, svP p1 k = .slice Ak m ck := by
        obtain ⟨Ak, ck, h1⟩ := own_shape (HX.out.buf.row_at (k := k) (by rw [hn1]; omega))
        exact ⟨Ak, ck, by rw [h1, hstk]⟩
      have HY := Lib.hid (HX.out.zset D)
      have e2 : x5.cell? ⟨w.heap.size, 2, none⟩ = some (.int .i64 z) := HX.out.box.cell 2
      have e3 : x5.cell? ⟨w.heap.size, 3, none⟩ = some (.int .u64 d) := HX.out.box.cell 3
      have fe3 := HX.out.box.free 3
      have e6 : (x5.setCell ⟨w.heap.size, 3, none⟩ (.int .u64 D)).cell? ⟨g, 0, none⟩ = some (.slice (some ⟨b1, 0, none⟩) n1 cap1) := by rw [← hve1, ← hg, ← HX.out.g']; exact HY.out.buf.head.cell 0
      have HV8 := Lib.hid (fun X (hX : PS s1 p1 w p ⟨i, a, z, D⟩ X) => (show X.cell? ⟨b1, k * 2 + 1, none⟩ = some (.slice Ak m ck) from by rw [← hvk]; exact hX.buf.sv_cell (by rw [hn1]; omega) (by rw [hve1, hn1])))
      have HROW8 := Lib.hid (fun X (hX : PS s1 p1 w p ⟨i, a, z, D⟩ X) => (show X.ownsRow 0 34 4 (.slice Ak m ck) m (cellsW stk) from by rw [← hvk, ← hstm, ← hstk']; exact hX.buf.row_at (by rw [hn1]; omega)))
      have HKEEP8 := Lib.hid (fun X Y (hX : PS s1 p1 w p ⟨i, a, z, D⟩ X) (hg : X.grownBy Y (Value.slice Ak m ck).ownBlock) => hX.buf.keep8 (k := k) (b := b1) (cap := cap1) (by rw [hn1]; omega) (by rw [hve1, hn1]) (by rw [hvk]; exact hg))
      have HPUT := Lib.hid (fun X Y gs cs (hX : PS s1 p1 w p ⟨i, a, z, D⟩ X) (hg : X.grownBy Y (Value.slice Ak m ck).ownBlock) (hat : (Value.slice Ak m ck).ownBlock = some gs ∨ gs = X.heap.size) (ho : Y.ownsRow 0 34 4 (.slice (some ⟨gs, 0, none⟩) (m + 1) cs) (m + 1) (cellsW stk ++ (wrCells ⟨i, a, z, D⟩).toList)) =>
        hX.put (k := k) (b := b1) (cap := cap1) (gs := gs) (cs := cs) (m := m) (by rw [hn1]; omega) (by rw [hve1, hn1]) hstm' (by rw [hvk]; exact hg) (by rw [hvk]; exact hat) (by rw [hstk']; exact ho))
      have hKI : (0 : Int) ≤ ((k : Nat) : Int) ∧ ((k : Nat) : Int) < (n1 : Int) := by omega
      clear HX
      go_upto_region 8 with (first
        | (go_at_call 31; refine (HZ.out _).mono ?_; rintro e w7 ⟨rfl, rfl⟩))
      clear e2 e3 fe3 e6
      have HT := Lib.hid HY.out.drew
      clear HY
      refine wp_region_P (S := PS s1 p1 w p ⟨i, a, z, D⟩) (c := 7) (by kernel_rfl) ?_
      change wpAnyP _ _ _ _ _ _ _ _ _ (World.drew _)
      generalize World.drew _ = w8 at *
      refine hp_any (i := 0) (oi := ⟨some 50, .move _, _, _, _, _⟩) (.pointer (some ⟨b1, k * 2, none⟩)) rfl (by kernel_rfl) (by kernel_rfl) (by kernel_rfl) (by decide) (fun _ _ _ h => h) (by kernel_rfl) (fun _ => rfl) HT.out ?_
      simp only [Act.put, List.setIfInBounds_toArray, List.set_cons_zero, List.set_cons_succ]
      refine hp_val (i := 1) (oi := ⟨some 51, .move _, _, _, _, _⟩) [2, 3, 4, 7] (.pointer (some ⟨b1, k * 2, none⟩)) rfl (by kernel_rfl) (by kernel_rfl) (by kernel_rfl) (by kernel_rfl) (by kernel_rfl) rfl (fun _ _ _ h => h) (by kernel_rfl) (fun _ _ => rfl) HT.out ?_
      simp only [Act.put, List.setIfInBounds_toArray, List.set_cons_zero, List.set_cons_succ]
      refine hp_val (i := 2) (oi := ⟨some 52, .nilCheck _, _, _, _, _⟩) [3, 4, 7] (.pointer (some ⟨b1, k * 2, none⟩)) rfl (by kernel_rfl) (by kernel_rfl) (by kernel_rfl) (by kernel_rfl) (by kernel_rfl) rfl (fun _ _ _ h => h) (by kernel_rfl) (fun _ _ => rfl) HT.out ?_
      simp only [Act.put, List.setIfInBounds_toArray, List.set_cons_zero, List.set_cons_succ]
      refine hp_val (i := 3) (oi := ⟨some 53, .fieldAddr _ _ _, _, _, _, _⟩) [4, 7] (.pointer (some ⟨b1, k * 2 + 1, none⟩)) rfl (by kernel_rfl) (by kernel_rfl) (by kernel_rfl) (by kernel_rfl) (by kernel_rfl) rfl (fun _ _ _ h => h) (by kernel_rfl) (fun _ _ => by kernel_rfl) HT.out ?_
      simp only [Act.put, List.setIfInBounds_toArray, List.set_cons_zero, List.set_cons_succ]
      refine hp_val (i := 4) (oi := ⟨some 54, .load _ _, _, _, _, _⟩) [7] (.slice Ak m ck) rfl (by kernel_rfl) (by kernel_rfl) (by kernel_rfl) (by kernel_rfl) (by kernel_rfl) rfl (fun _ _ _ h => h) (by kernel_rfl) (fun x hx => ex_load rfl rfl (HV8.out x hx) (by kernel_rfl)) HT.out ?_
      simp only [Act.put, List.setIfInBounds_toArray, List.set_cons_zero, List.set_cons_succ]
      refine hp_load (i := 5) (oi := ⟨some 55, .load _ _, _, _, _, _⟩) [6, 7] rfl (by kernel_rfl) (by kernel_rfl) (by kernel_rfl) (by kernel_rfl) (by kernel_rfl) rfl (fun _ _ _ h => h) (by kernel_rfl) _ _ rfl rfl (fun _ h => h.box) Try.underlying34 rfl (by kernel_rfl) HT.out ?_
      simp only [Act.put, List.setIfInBounds_toArray, List.set_cons_zero, List.set_cons_succ]
      refine hp_one (i := 6) (oi := ⟨some 56, .buildSlice _ _ _, _, _, _, _⟩) (by kernel_rfl) rfl (by kernel_rfl) ?_
      refine Go.wp_buildSlice 39 34 1 _ rfl #[.int .i64 i, .int .i64 a, .int .i64 z, .int .u64 D] iw _ Try.underlying39 hiw hwz (by rw [hws]; decide) (by rw [hws]; decide) (by rw [hws]; kernel_rfl) ?_
      have HT1 := Lib.hid (HT.out.on (BW.new (Below.refl w8.heap.size w8) (.cells #[.int .i64 i, .int .i64 a, .int .i64 z, .int .u64 D] 34)))
      refine ⟨HT1.out, ?_⟩
      have hnew : (w8.alloc (.cells #[.int .i64 i, .int .i64 a, .int .i64 z, .int .u64 D] 34)).heap[w8.heap.size]? = some (.cells #[.int .i64 i, .int .i64 a, .int .i64 z, .int .u64 D] 34 (0, 0)) := Blk.new _ _ _
      simp only [Act.put, List.setIfInBounds_toArray, List.set_cons_zero, List.set_cons_succ]
      refine hp_last (i := 7) (oi := ⟨some 57, .call _, _, _, _, _⟩) (by kernel_rfl) rfl (by kernel_rfl) (by kernel_rfl) ?_
      refine wp_append_lies _ (.tmp 54) (.tmp 56) 39 rfl 0 34 iw _ 4 32 Try.underlying39 hiw hwz hws hwb rfl (by decide) (.slice Ak m ck) m (cellsW stk) rfl (HROW8.out _ HT1.out) ⟨w8.heap.size, 0, none⟩ 1 1 (wrCells ⟨i, a, z, D⟩).toList rfl rfl (World.news_of_block hnew) (by intro u hu; simp [wrCells] at hu; rcases hu with rfl | rfl | rfl | rfl <;> rfl) (by decide) (by unfold maxLen; omega) (by omega) (Nat.zero_le _) _ rfl ?_
      intro gs cs w9 ho9 hg9 hgs hlt9
      clear hnew
      simp only [Act.put, List.setIfInBounds_toArray, List.set_cons_zero, List.set_cons_succ]
      refine hk_val (i := 8) (oi := ⟨some 58, .nilCheck _, _, _, _, _⟩) (.pointer (some ⟨b1, k * 2, none⟩)) rfl (by kernel_rfl) (by kernel_rfl) (by kernel_rfl) (fun _ _ _ h => h) (by kernel_rfl) (fun _ _ => rfl) trivial ?_
      simp only [Act.put, List.setIfInBounds_toArray, List.set_cons_zero, List.set_cons_succ]
      refine hk_val (i := 9) (oi := ⟨some 59, .fieldAddr _ _ _, _, _, _, _⟩) (.pointer (some ⟨b1, k * 2 + 1, none⟩)) rfl (by kernel_rfl) (by kernel_rfl) (by kernel_rfl) (fun _ _ _ h => h) (by kernel_rfl) (fun _ _ => by kernel_rfl) trivial ?_
      simp only [Act.put, List.setIfInBounds_toArray, List.set_cons_zero, List.set_cons_succ]
      refine hk_one (i := 10) (oi := ⟨none, .store _ _ _, _, _, _, _⟩) (by kernel_rfl) rfl (by kernel_rfl) ?_
      obtain ⟨q9, f9⟩ := HKEEP8.out _ _ HT1.out hg9
      refine wp_store_one (v := .slice (some ⟨gs, 0, none⟩) (m + 1) cs) rfl rfl rfl rfl q9 f9 (by kernel_rfl) rfl rfl ?_
      refine ⟨trivial, ?_⟩
      have HX8 := Lib.hid (HPUT.out _ _ _ _ HT1.out hg9 hgs ho9)
      clear q9 f9 ho9 hg9 hgs HT1 hlt9 HT
      generalize World.setCell _ _ _ = x9 at *
      refine wpAnyH_done (by kernel_rfl) ?_ _
      go_wp2
      go_ret
      first
        | exact HFIN.out _ HX8.out
        | (subst hs1; exact HFIN.out _ HX8.out)
theorem put_nil (x : Wr) (w : World) :
    Calls Try.prog 10 #[.pointer none, .agg #[.int .i64 x.id, .int .i64 x.addr, .int .i64 x.size, .int .u64 x.data]] w fun e w' => e = .returned (.bool false) ∧ BW w w' := by
  have h1 : BW w (w.alloc (.cells (wrCells x) 34)) := BW.new (Below.refl _ _) _
  have HP := Lib.hid (fun X => place_nil x X)
  obtain ⟨i, a, z, d⟩ := x
  dsimp only at *
  go_enter Try.func10, Try.ntmps10
  go_wp2_with (go_at_call 30; refine (HP.out _).mono ?_; rintro e w2 ⟨rfl, hb2⟩)
  go_ret
  exact ⟨rfl, h1.on hb2⟩
end Go.Proofs.Ytcddgcchpmjdiaa
