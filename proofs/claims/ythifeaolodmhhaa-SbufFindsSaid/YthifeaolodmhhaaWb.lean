/- SbufFinds: what is put and not drained is found, byte by byte, and nothing else. -/
import Derived.Test.YthifeaolodmhhaaWa
import Derived.Deep.CutBlock
set_option maxRecDepth 100000
set_option linter.unusedVariables false
namespace Go.Proofs.Ythifeaolodmhhaa
open Go.RowKit

def vb (v : Value) : List Nat := v.ownBlock.toList
theorem mem_vb {v : Value} {k : Nat} : k ∈ vb v ↔ v.ownBlock = some k := by unfold vb; simp
theorem OX.sub {W w : World} {R R' : List Nat} {g : Nat} {s : Bst} (h : OX W R g s w) (hR : ∀ r ∈ R', r ∈ R) : OX W R' g s w := h.more (Below.refl _ _) (fun r hr => ⟨h.2.1 r (hR r hr), .inl (hR r hr)⟩)
/-- A row of R has grown. -/
theorem OX.app {W w w1 : World} {R : List Nat} {g gv : Nat} {s : Bst} {v : Value} (h : OX W R g s w) (hv : ∀ k, v.ownBlock = some k → k ∈ R ∧ W.heap.size ≤ k) (hg : w.grownBy w1 v.ownBlock) (hat : v.ownBlock = some gv ∨ gv = w.heap.size) (hlt : gv < w1.heap.size) : OX W (gv :: R) g s w1 := by
  refine h.grown hg hv (fun r hr => ?_)
  simp at hr
  rcases hr with rfl | hr
  · refine ⟨hlt, ?_⟩
    rcases hat with h1 | h1
    · exact .inl (hv _ h1).1
    · exact .inr (by omega)
  · exact ⟨Nat.lt_of_lt_of_le (h.2.1 r hr) hg.size, .inl hr⟩
/-- The list of what is in, beside the buffer. -/
structure FO (W : World) (g : Nat) (s : Bst) (l : List Wr) (v : Value) (X : List Nat) (w : World) : Prop where
  ox : OX W (vb v ++ X) g s w
  row : w.ownsRow W.heap.size 34 4 v l.length (cellsW l)
section
variable {W w w' : World} {g : Nat} {s s' : Bst} {l : List Wr} {v : Value} {X : List Nat}
theorem FO.on (h : FO W g s l v X w) (k : BW w w') : FO W g s l v X w' := ⟨h.ox.on k, (Fr.of [] k).row h.row (by simp)⟩
theorem FO.same (h : FO W g s l v X w) (k : OX W (vb v ++ X) g s' w') (hs : Same (vb v ++ X) w w') : FO W g s' l v X w' := ⟨k, hs.row h.row (fun i hi => by simp [mem_vb.2 hi])⟩
theorem FO.sub (h : FO W g s l v X w) : FO W g s l v [] w := ⟨h.ox.sub (by intro r hr; simp at hr; simp [hr]), h.row⟩
/-- A new block is named. -/
theorem FO.box (h : FO W g s l v [] w) (o : Obj) : FO W g s l v [w.heap.size] (w.alloc o) :=
  ⟨h.ox.more (BW.new (Below.refl _ _) o) (fun r hr => by
    rw [World.size_alloc]
    simp at hr
    rcases hr with hr | rfl
    · have := h.ox.2.1 r (by simp [hr]); exact ⟨by omega, .inl (by simp [hr])⟩
    · exact ⟨by omega, .inr (Nat.le_refl _)⟩), (Fr.of [] (BW.new (Below.refl _ _) o)).row h.row (by simp)⟩
theorem FO.put (h : FO W g s l v X w) (x : Wr) (hb : x.addr ≤ 9223372036854775807) (h0 : 0 ≤ x.data) (h1 : x.data < 2 ^ 64) :
    Calls Try.prog 10 #[.pointer (some ⟨g, 0, none⟩), .agg #[.int .i64 x.id, .int .i64 x.addr, .int .i64 x.size, .int .u64 x.data]] w fun e w' => e = .returned (.bool (placeN s x).2) ∧ FO W g (putB s x) l v X w' ∧ Same (vb v ++ X) w w' :=
  (h.ox.put x hb h0 h1).mono fun e w' ⟨he, k, hs⟩ => ⟨he, h.same k hs, hs⟩
theorem FO.bar (h : FO W g s l v X w) (hE : s.ep ≤ 1000000) :
    Calls Try.prog 12 #[.pointer (some ⟨g, 0, none⟩)] w fun e w' => e = .returned (.tuple #[]) ∧ FO W g (barB s) l v X w' ∧ Same (vb v ++ X) w w' :=
  (h.ox.bar hE).mono fun e w' ⟨he, k, hs⟩ => ⟨he, h.same k hs, hs⟩
/-- One more is in. -/
theorem FO.app {w1 : World} {gv cv : Nat} {x : Wr} (h : FO W g s l v X w) (hg : w.grownBy w1 v.ownBlock) (hat : v.ownBlock = some gv ∨ gv = w.heap.size) (hlt : gv < w1.heap.size)
    (ho : w1.ownsRow W.heap.size 34 4 (.slice (some ⟨gv, 0, none⟩) (l.length + 1) cv) (l.length + 1) (cellsW l ++ (wrCells x).toList)) : FO W g s (l ++ [x]) (.slice (some ⟨gv, 0, none⟩) (l.length + 1) cv) [] w1 := by
  refine ⟨(h.ox.app (fun k hk => ⟨by simp [mem_vb.2 hk], (h.row.lt k hk).1⟩) hg hat hlt).sub (fun r hr => ?_), ?_⟩
  · have : r = gv := by have h9 := hr; simp [vb, Value.ownBlock] at h9; omega
    rw [this]; simp
  · rw [List.length_append, cellsW_append, cellsW_one]
    exact ho
end
/-- While the list without one is made. -/
structure FJ (W : World) (g : Nat) (s : Bst) (base : Nat) (v4 : Value) (l4 : List Wr) (v7 : Value) (l7 : List Wr) (v9 : Value) (l9 : List Wr) (w : World) : Prop where
  ox : OX W (vb v4 ++ (vb v7 ++ vb v9)) g s w
  r4 : w.ownsRow W.heap.size 34 4 v4 l4.length (cellsW l4)
  r7 : w.ownsRow W.heap.size 34 4 v7 l7.length (cellsW l7)
  r9 : w.ownsRow base 34 4 v9 l9.length (cellsW l9)
  ap : (∀ i, v4.ownBlock = some i → i < base) ∧ (∀ i, v7.ownBlock = some i → i < base)
  ge : W.heap.size ≤ base ∧ base ≤ w.heap.size
section
variable {W w w' : World} {g base : Nat} {s : Bst} {v4 v7 v9 : Value} {l4 l7 l9 : List Wr}
theorem FJ.on (h : FJ W g s base v4 l4 v7 l7 v9 l9 w) (k : BW w w') : FJ W g s base v4 l4 v7 l7 v9 l9 w' :=
  ⟨h.ox.on k, (Fr.of [] k).row h.r4 (by simp), (Fr.of [] k).row h.r7 (by simp), (Fr.of [] k).row h.r9 (by simp), h.ap, h.ge.1, Nat.le_trans h.ge.2 (Below.size k)⟩
theorem FJ.app {w1 : World} {gv cv : Nat} {x : Wr} (h : FJ W g s base v4 l4 v7 l7 v9 l9 w) (hg : w.grownBy w1 v9.ownBlock) (hat : v9.ownBlock = some gv ∨ gv = w.heap.size) (hlt : gv < w1.heap.size)
    (ho : w1.ownsRow base 34 4 (.slice (some ⟨gv, 0, none⟩) (l9.length + 1) cv) (l9.length + 1) (cellsW l9 ++ (wrCells x).toList)) : FJ W g s base v4 l4 v7 l7 (.slice (some ⟨gv, 0, none⟩) (l9.length + 1) cv) (l9 ++ [x]) w1 := by
  have hne : ∀ v : Value, (∀ i, v.ownBlock = some i → i < base) → v.ownBlock = none ∨ v.ownBlock ≠ v9.ownBlock := fun v hv => by
    cases hi : v.ownBlock with
    | none => exact .inl rfl
    | some i =>
      refine .inr fun e => ?_
      have h1 := hv i hi
      have h2 := (h.r9.lt i e.symm).1
      omega
  refine ⟨(h.ox.app (fun k hk => ⟨by simp [mem_vb.2 hk], Nat.le_trans h.ge.1 (h.r9.lt k hk).1⟩) hg hat hlt).sub (fun r hr => ?_), h.r4.kept hg (hne v4 h.ap.1), h.r7.kept hg (hne v7 h.ap.2), ?_, h.ap, h.ge.1, Nat.le_trans h.ge.2 hg.size⟩
  · simp only [List.mem_append] at hr
    rcases hr with hr | hr | hr
    · simp [hr]
    · simp [hr]
    · have : r = gv := by have h9 := hr; simp [vb, Value.ownBlock] at h9; omega
      rw [this]; simp
  · rw [List.length_append, cellsW_append, cellsW_one]
    exact ho
theorem own_base {b b' n z : Nat} {e : TypeId} {v : Value} {xs : List Value} (h : w.ownsRow b e z v n xs) (hb : b' ≤ b) : w.ownsRow b' e z v n xs := by
  refine ⟨h.1, ?_⟩
  rcases h.2 with h0 | ⟨g, cap, cur, h1, h2, h3⟩
  · exact .inl h0
  · exact .inr ⟨g, cap, cur, h1, by omega, h3⟩
/-- The list without one is the list. -/
theorem FJ.next (h : FJ W g s base v4 l4 v7 l7 v9 l9 w) : FO W g s l9 v9 (vb v7) w ∧ w.ownsRow W.heap.size 34 4 v7 l7.length (cellsW l7) :=
  ⟨⟨h.ox.sub (by intro r hr; simp only [List.mem_append] at hr ⊢; rcases hr with hr | hr; exact .inr (.inr hr); exact .inr (.inl hr)), own_base h.r9 h.ge.1⟩, h.r7⟩
theorem FJ.begin (h : FO W g s l4 v4 (vb v7) w) (h7 : w.ownsRow W.heap.size 34 4 v7 l7.length (cellsW l7)) : FJ W g s w.heap.size v4 l4 v7 l7 (.slice none 0 0) [] w :=
  ⟨h.ox.sub (by intro r hr; simp only [List.mem_append] at hr ⊢; rcases hr with hr | hr | hr; exact .inl hr; exact .inr hr; cases hr), h.row, h7, World.ownsRow_nil _ _ _ _, ⟨fun i hi => (h.row.lt i hi).2, fun i hi => (h7.lt i hi).2⟩, Below.size h.ox.low, Nat.le_refl _⟩
end
theorem not_and {G m : Bool} (h : (!G && m) = true) : G = false ∧ m = true := by revert h; cases G <;> cases m <;> decide
theorem own_cellv {w : World} {base n : Nat} {v : Value} {l : List Wr} (h : w.ownsRow base 34 4 v n (cellsW l)) {j : Nat} (hj : j < l.length) (hn : l.length = n) : ∃ g cap, v = .slice (some ⟨g, 0, none⟩) n cap := by
  obtain ⟨g, cap, e, _⟩ := h.form (by omega)
  exact ⟨g, cap, e⟩

set_option maxHeartbeats 16000000 in
theorem finds_walk (A : Option Addr) (cap : Nat) (l : List At) (W : World) (hcap : l.length ≤ 9223372036854775807) (hws : Wats l) (hr : Rd W W.heap.size A (cellsA l)) :
    Calls Try.prog 6 #[.slice A l.length cap] W fun e w' => e = .returned (.bool true) ∧ BW W w' := by
  have HAL := Lib.hid (fun w => alive13_any w)
  have HRI := Lib.hid hr
  have HW := Lib.hid hws
  obtain ⟨iw, hiw, hwz, hwS, hwb⟩ := inf_parts (P := Try.prog) (e := 34) (z := .agg #[.int .i64 0, .int .i64 0, .int .i64 0, .int .u64 0]) (n := 4) (b := 32) (by kernel_rfl)
  clear hr hws
  go_enter Try.func6, Try.ntmps6
  go_wp2_with (first
    | (go_at_call 8; refine (HAL.out _).mono ?_; rintro e w1 ⟨rfl, hb⟩; have HX0 := Lib.hid (OX.new (R := []) hb (by simp)); clear hb))
  obtain ⟨g, hg⟩ : ∃ g, w1.heap.size = g := ⟨_, rfl⟩
  rw [hg] at HX0 ⊢
  obtain ⟨w2, hw2⟩ : ∃ w2, w1.alloc (.cells #[.slice none 0 0, .int .i64 0] 27) = w2 := ⟨_, rfl⟩
  rw [hw2] at HX0 ⊢
  clear hw2 hg
  go_loopw [4, 5] (fun v4 i wx => ∃ (k : Nat) (L : List Wr) (s : Bst), k ≤ l.length ∧ k ≤ 60 ∧ i = .int .i64 (k : Int) ∧ Hid (FI s L []) ∧ L.length ≤ k ∧ s.ep ≤ k ∧ Hid (FO W g s L v4 [] wx)) (fun _ i _ => 60 - (intOf i).toNat)
  case atStart => exact ⟨0, [], ⟨[], 0⟩, by omega, by omega, rfl, Lib.hid FI.start, by simp, by simp, Lib.hid ⟨by simpa [vb, Value.ownBlock] using HX0.out, World.ownsRow_nil _ _ _ _⟩⟩
  case round =>
    obtain ⟨k, L, s, hk1, hk2, rfl, HFI, hLk, hek, HFO⟩ := hrel
    clear HX0
    by_cases hc : k < l.length ∧ k < 60
    · obtain ⟨hc1, hc2⟩ := hc
      have hc1' : (k : Int) < (l.length : Int) := by omega
      have hc2' : (k : Int) < 60 := by omega
      obtain ⟨b, off, hB, hbl, hcell⟩ := at_cell HRI.out (by omega)
      subst hB
      have hat := hcell k hc1
      have hwk := HW.out _ (List.getElem_mem hc1)
      obtain ⟨⟨kd, ⟨i, a, z, d⟩⟩, hx⟩ : ∃ x, l[k] = x := ⟨_, rfl⟩
      rw [hx] at hat hwk
      dsimp only at hat hwk
      clear hcell hx
      have hE : s.ep ≤ 1000000 := by omega
      have HBL := HFO.out.ox.low
      obtain ⟨a0, a1, a2, a3, a4⟩ := hat
      have c0 := (Below.cell HBL (p := ⟨b, off + k * 5, none⟩) hbl).trans a0
      have c1 := (Below.cell HBL (p := ⟨b, off + k * 5 + 1, none⟩) hbl).trans a1
      have c2 := (Below.cell HBL (p := ⟨b, off + k * 5 + 2, none⟩) hbl).trans a2
      have c3 := (Below.cell HBL (p := ⟨b, off + k * 5 + 3, none⟩) hbl).trans a3
      have c4 := (Below.cell HBL (p := ⟨b, off + k * 5 + 4, none⟩) hbl).trans a4
      clear a0 a1 a2 a3 a4
      obtain ⟨A4, cp4, hv4⟩ := own_shape HFO.out.row
      subst hv4
      have HFB := Lib.hid (HFO.out.box (.cells #[.int .i64 i, .int .i64 a, .int .i64 z, .int .u64 d] 34))
      have HBX := Lib.hid (Blk.new #[.int .i64 i, .int .i64 a, .int .i64 z, .int .u64 d] 34 wr)
      have d0 := cell_old c0 (.cells #[.int .i64 i, .int .i64 a, .int .i64 z, .int .u64 d] 34)
      go_upto_block 2 with (fail)
      clear HFO HBL c0 c1 c2 c3 c4 d0
      obtain ⟨Bx, hBx⟩ : ∃ Bx, wr.heap.size = Bx := ⟨_, rfl⟩
      rw [hBx] at HFB HBX ⊢
      obtain ⟨w5, hw5⟩ : ∃ w5, wr.alloc (.cells #[.int .i64 i, .int .i64 a, .int .i64 z, .int .u64 d] 34) = w5 := ⟨_, rfl⟩
      rw [hw5] at HFB HBX ⊢
      clear hw5 hBx
      go_cut [4, 7, 8, 9, 10, 11] from 44 to 145 (fun s4 _ _ _ _ _ wx => ∃ (L' : List Wr) (s' : Bst), Hid (FI s' L' []) ∧ L'.length ≤ k + 1 ∧ s'.ep ≤ ((k + 1 : Nat) : Int) ∧ Hid (FO W g s' L' s4 [] wx))
      case first =>
        have HPUT := Lib.hid (fun X (hX : FO W g s L (.slice A4 L.length cp4) [Bx] X) => hX.put ⟨i, a, z, d⟩ hwk.w.addr.2 hwk.w.data.1 hwk.w.data.2)
        have HBAR := Lib.hid (fun X (hX : FO W g s L (.slice A4 L.length cp4) [Bx] X) => hX.bar hE)
        have HDRA := Lib.hid (fun X (hX : FO W g s L (.slice A4 L.length cp4) [Bx] X) => hX.ox.dra a)
        have e0 : w5.cell? ⟨Bx, 0, none⟩ = some (.int .i64 i) := HBX.out.cell 0
        have e1 : w5.cell? ⟨Bx, 1, none⟩ = some (.int .i64 a) := HBX.out.cell 1
        have e2 : w5.cell? ⟨Bx, 2, none⟩ = some (.int .i64 z) := HBX.out.cell 2
        have e3 : w5.cell? ⟨Bx, 3, none⟩ = some (.int .u64 d) := HBX.out.cell 3
        by_cases hk0 : kd = 0
        · subst hk0
          have hfi := HFI.out.put ⟨i, a, z, d⟩ hwk.w.data.1 hwk.w.data.2
          have hpe := putB_ep s ⟨i, a, z, d⟩
          cases hok : (placeN s ⟨i, a, z, d⟩).2 with
          | false =>
            rw [hok] at HPUT hfi
            rw [if_neg (by decide)] at hfi
            have HFI1 := Lib.hid hfi
            clear hok hfi
            go_wp2_with (first
              | (go_at_call 10; refine (HPUT.out _ HFB.out).mono ?_; rintro e w6 ⟨rfl, hfo, _⟩; have HF6 := Lib.hid hfo.sub; clear hfo))
            go_meet
            case rel => exact ⟨L, _, HFI1, by omega, by rw [hpe]; omega, HF6⟩
          | true =>
            rw [hok] at HPUT hfi
            rw [if_pos rfl] at hfi
            have HFI1 := Lib.hid hfi
            clear hok hfi
            go_wp2_with (first
              | (go_at_call 10; refine (HPUT.out _ HFB.out).mono ?_; rintro e w6 ⟨rfl, hfo, hsm⟩; have HF6 := Lib.hid hfo; have hb6 := hsm.blk HBX.out (by simp); have f0 : w6.cell? ⟨Bx, 0, none⟩ = some (.int .i64 i) := hb6.cell 0; have f1 : w6.cell? ⟨Bx, 1, none⟩ = some (.int .i64 a) := hb6.cell 1; have f2 : w6.cell? ⟨Bx, 2, none⟩ = some (.int .i64 z) := hb6.cell 2; have f3 : w6.cell? ⟨Bx, 3, none⟩ = some (.int .u64 d) := hb6.cell 3; have HF7 := Lib.hid (HF6.out.on (BW.new (Below.refl w6.heap.size w6) (.cells #[.int .i64 i, .int .i64 a, .int .i64 z, .int .u64 d] 34))); have hnew : (w6.alloc (.cells #[.int .i64 i, .int .i64 a, .int .i64 z, .int .u64 d] 34)).heap[w6.heap.size]? = some (.cells (wrCells ⟨i, a, z, d⟩) 34 (0, 0)) := Blk.new _ _ _; clear hfo hsm hb6)
              | (at_builtin; refine wpList_append_lies _ rfl _ _ 39 rfl W.heap.size 34 iw _ 4 32 Try.underlying39 hiw hwz hwS hwb rfl (by decide) _ L.length (cellsW L) rfl HF7.out.row ⟨w6.heap.size, 0, none⟩ 1 1 (wrCells ⟨i, a, z, d⟩).toList rfl rfl (World.news_of_block hnew) (by intro u hu; simp [wrCells] at hu; rcases hu with rfl | rfl | rfl | rfl <;> rfl) (by decide) (by unfold maxLen; omega) (by omega) (Below.size HF7.out.ox.low) _ rfl ?_; intro gv cv w8 ho8 hg8 hat8 hlt8; have HF8 := Lib.hid (HF7.out.app hg8 hat8 hlt8 ho8); clear ho8 hg8 hat8 hlt8 hnew))
            go_meet
            case rel => exact ⟨_, _, HFI1, by rw [List.length_append]; show L.length + 1 ≤ _; omega, by rw [hpe]; omega, HF8⟩
        · have hkb0 : (kd == 0) = false := by simp [hk0]
          by_cases hk1' : kd = 1
          · subst hk1'
            have HFI1 := Lib.hid HFI.out.bar
            have hpe := (barB_ep s).1
            go_wp2_with (first
              | (go_at_call 12; refine (HBAR.out _ HFB.out).mono ?_; rintro e w6 ⟨rfl, hfo, _⟩; have HF6 := Lib.hid hfo.sub; clear hfo))
            go_meet
            case rel => exact ⟨L, _, HFI1, by omega, by push_cast; omega, HF6⟩
          · have hkb1 : (kd == 1) = false := by simp [hk1']
            by_cases hk2' : kd = 2
            · subst hk2'
              have hdr := HFI.out.dra a
              have hdp := draB_ep s a
              obtain ⟨O, hO⟩ : ∃ O, outB s a = O := ⟨_, rfl⟩
              obtain ⟨s', hs'⟩ : ∃ s', draB s a = s' := ⟨_, rfl⟩
              have hOk := out_ok HFI.out.ok (q := a)
              have hO8 : O.length ≤ 8 := by
                rw [← hO]
                unfold outB
                split
                · rename_i hg
                  unfold mayGo at hg
                  simp only [Bool.and_eq_true, decide_eq_true_eq] at hg
                  have hk' : a.toNat < s.es.length := by omega
                  rw [getD_ent hk']
                  exact (HFI.out.ok.some _ (List.getElem_mem _)).2
                · simp
              rw [hO, hs'] at hdr
              rw [hO, hs'] at HDRA
              rw [hs'] at hdp
              rw [hO] at hOk
              have HFI1 := Lib.hid hdr
              have HOK := Lib.hid hOk
              have HDP := Lib.hid (show s'.ep ≤ ((k + 1 : Nat) : Int) by rw [hdp]; push_cast; omega)
              clear hdr hdp hO hs' hOk HPUT HBAR HFI
              go_wp2_with (first
                | (go_at_call 15; refine (HDRA.out _ HFB.out).mono ?_; rintro e w6 ⟨⟨v7, rfl, ho7, _, hx7⟩, hs6⟩; obtain ⟨A7, cp7, rfl⟩ := own_shape ho7; have HR7 := Lib.hid ho7; have HF6 := Lib.hid (show FO W g s' L (.slice A4 L.length cp4) (vb (.slice A7 O.length cp7)) w6 from ⟨hx7 _ (by intro r hr; rcases List.mem_append.1 hr with hr | hr; exact .inl (by simp [hr]); exact .inr (mem_vb.1 hr)), hs6.row HFB.out.row (fun i hi => by simp [mem_vb.2 hi])⟩); clear ho7 hx7 hs6))
              clear HDRA HFB HBX e0 e1 e2 e3
              go_loopw [4, 8] (fun v4 v8 wx => ∃ (q : Nat) (L2 : List Wr), q ≤ O.length ∧ v8 = .int .i64 (q : Int) ∧ Hid (FI s' L2 (O.drop q)) ∧ L2.length ≤ L.length ∧ Hid (FO W g s' L2 v4 (vb (.slice A7 O.length cp7)) wx) ∧ Hid (wx.ownsRow W.heap.size 34 4 (.slice A7 O.length cp7) O.length (cellsW O))) (fun _ v8 _ => O.length - (intOf v8).toNat)
              case atStart => exact ⟨0, L, by omega, rfl, by rw [List.drop_zero]; exact HFI1, by omega, HF6, HR7⟩
              case round =>
                obtain ⟨q, L2, hq, rfl, HFQ, hL2, HFOQ, HRQ⟩ := hrel
                clear HF6 HR7 HFI1
                obtain ⟨A2, cp2, hv2⟩ := own_shape HFOQ.out.row
                subst hv2
                by_cases hlq : q < O.length
                · have hlqI : (q : Int) < (O.length : Int) := by omega
                  have hdrop : O.drop q = O[q] :: O.drop (q + 1) := List.drop_eq_getElem_cons hlq
                  have htk := HFQ.out
                  rw [hdrop] at htk
                  have HTK := Lib.hid htk.take
                  have HMAY := Lib.hid HFQ.out.may
                  obtain ⟨g7, cq7, hA7⟩ := own_cellv HRQ.out hlq rfl
                  cases hA7
                  have HCO := Lib.hid (fun (X : World) (hX : X.ownsRow W.heap.size 34 4 (.slice (some ⟨g7, 0, none⟩) O.length cp7) O.length (cellsW O)) => own_cell hX hlq)
                  obtain ⟨⟨oi, oa, oz, od⟩, ho⟩ : ∃ o, O[q] = o := ⟨_, rfl⟩
                  rw [ho] at HTK HCO
                  dsimp only at HCO
                  clear htk hdrop ho
                  have HJ0 := Lib.hid (FJ.begin HFOQ.out HRQ.out)
                  have HBASE := Lib.hid HFOQ.out.ox.low
                  clear HFOQ HRQ HFQ
                  obtain ⟨base, hbase⟩ : ∃ base, wr.heap.size = base := ⟨_, rfl⟩
                  rw [hbase] at HJ0
                  clear hbase
                  go_wp2
                  go_loopw [9, 10, 11] (fun v9 v10 v11 wy => ∃ j : Nat, j ≤ L2.length ∧ v11 = .int .i64 (j : Int) ∧ v10 = .bool ((L2.take j).any (mB ⟨oi, oa, oz, od⟩)) ∧ Hid (FJ W g s' base (.slice A2 L2.length cp2) L2 (.slice (some ⟨g7, 0, none⟩) O.length cp7) O v9 ((L2.take j).eraseP (mB ⟨oi, oa, oz, od⟩)) wy)) (fun _ _ v11 _ => L2.length - (intOf v11).toNat)
                  case atStart => exact ⟨0, by omega, rfl, by simp, by simpa using HJ0⟩
                  case round =>
                    obtain ⟨j, hj, rfl, rfl, HFJ⟩ := hrel
                    clear HJ0
                    have hlst := List.length_eraseP_le (p := mB ⟨oi, oa, oz, od⟩) (l := L2.take j)
                    have hltk : (L2.take j).length ≤ j := by rw [List.length_take]; omega
                    by_cases hlj : j < L2.length
                    · have hljI : (j : Int) < (L2.length : Int) := by omega
                      obtain ⟨g2, cq2, hA2⟩ := own_cellv HFJ.out.r4 hlj rfl
                      cases hA2
                      have hlstep := left_step (p := mB ⟨oi, oa, oz, od⟩) hlj
                      have HCY := Lib.hid (fun (X : World) (hX : X.ownsRow W.heap.size 34 4 (.slice (some ⟨g2, 0, none⟩) L2.length cp2) L2.length (cellsW L2)) => own_cell hX hlj)
                      have hym := HMAY.out L2[j] (List.getElem_mem _)
                      obtain ⟨⟨yi, ya, yz, yd⟩, hy⟩ : ∃ y, L2[j] = y := ⟨_, rfl⟩
                      rw [hy] at HCY hym hlstep
                      dsimp only at HCY hym
                      have HLS := Lib.hid hlstep
                      obtain ⟨hym1, hyd0, hyd1⟩ := hym
                      obtain ⟨_, hyz, _, _, _⟩ := mayW_out hym1
                      dsimp only at hyz
                      have hyzI : 1 ≤ yz ∧ yz ≤ 8 := by omega
                      have hw8 : IntKind.i64.wrap (8 * yz) = 8 * yz := by rw [IntKind.wrap_i64]; omega
                      have hzx := rzext_any yd (8 * yz) hyd0 hyd1
                      rw [show cap64 (8 * yz) = 8 * yz.toNat by unfold cap64; omega] at hzx
                      obtain ⟨D, hD⟩ : ∃ D, zx yd (8 * yz.toNat) = D := ⟨_, rfl⟩
                      rw [hD] at hzx
                      have HZX := Lib.hid hzx
                      have HMB := Lib.hid (show mB ⟨oi, oa, oz, od⟩ ⟨yi, ya, yz, yd⟩ = (decide (yi = oi) && (decide (ya = oa) && (decide (yz = oz) && decide (D = od)))) from by rw [← hD]; unfold mB eqW low; rfl)
                      clear hy hlstep hzx hD hym1 hyz
                      obtain ⟨m, hm⟩ : ∃ m, mB ⟨oi, oa, oz, od⟩ ⟨yi, ya, yz, yd⟩ = m := ⟨_, rfl⟩
                      obtain ⟨G, hG⟩ : ∃ G, (L2.take j).any (mB ⟨oi, oa, oz, od⟩) = G := ⟨_, rfl⟩
                      rw [hm] at HMB HLS
                      rw [hG] at HLS ⊢
                      clear hm
                      go_upto_region 25 with (fail)
                      go_cut [135] from 75 to 134 (fun s wx => Hid (FJ W g s' base (.slice (some ⟨g2, 0, none⟩) L2.length cp2) L2 (.slice (some ⟨g7, 0, none⟩) O.length cp7) O u9 ((L2.take j).eraseP (mB ⟨oi, oa, oz, od⟩)) wx) ∧ s = .bool (!G && m))
                      case first =>
                        as_aux_lemma =>
                          obtain ⟨x0, x1, x2, x3⟩ := HCO.out _ HFJ.out.r7
                          obtain ⟨y0, y1, y2, y3⟩ := HCY.out _ HFJ.out.r4
                          have HQ := Lib.hid (fun n => HFJ.out.on (below_drewN' (Below.refl wr.heap.size wr) n))
                          cases G with
                          | true =>
                            go_quiet (first | (go_at_call 27; refine Calls.quiet_of_same ((HZX.out _).mono fun _ _ h => ⟨h.1, h.2.symm⟩)))
                            go_wp2
                            go_meet
                            case rel => exact ⟨HQ.out _, rfl⟩
                          | false =>
                            by_cases h0 : yi = oi
                            · have hb0 : (yi == oi) = true := by simp [h0]
                              by_cases h1 : ya = oa
                              · have hb1 : (ya == oa) = true := by simp [h1]
                                by_cases h2 : yz = oz
                                · have hb2 : (yz == oz) = true := by simp [h2]
                                  by_cases h3 : D = od
                                  · have hb3 : (D == od) = true := by simp [h3]
                                    have HMM := Lib.hid (show m = true from by rw [HMB.out]; simp [h0, h1, h2, h3])
                                    clear h0 h1 h2 h3
                                    go_quiet (first | (go_at_call 27; refine Calls.quiet_of_same ((HZX.out _).mono fun _ _ h => ⟨h.1, h.2.symm⟩)))
                                    go_wp2
                                    go_meet
                                    case rel => exact ⟨HQ.out _, by rw [HMM.out]; rfl⟩
                                  · have hb3 : (D == od) = false := by simp [h3]
                                    have HMM := Lib.hid (show m = false from by rw [HMB.out]; simp [h3])
                                    clear h0 h1 h2 h3
                                    go_quiet (first | (go_at_call 27; refine Calls.quiet_of_same ((HZX.out _).mono fun _ _ h => ⟨h.1, h.2.symm⟩)))
                                    go_wp2
                                    go_meet
                                    case rel => exact ⟨HQ.out _, by rw [HMM.out]; rfl⟩
                                · have hb2 : (yz == oz) = false := by simp [h2]
                                  have HMM := Lib.hid (show m = false from by rw [HMB.out]; simp [h2])
                                  clear h0 h1 h2
                                  go_quiet (first | (go_at_call 27; refine Calls.quiet_of_same ((HZX.out _).mono fun _ _ h => ⟨h.1, h.2.symm⟩)))
                                  go_wp2
                                  go_meet
                                  case rel => exact ⟨HQ.out _, by rw [HMM.out]; rfl⟩
                              · have hb1 : (ya == oa) = false := by simp [h1]
                                have HMM := Lib.hid (show m = false from by rw [HMB.out]; simp [h1])
                                clear h0 h1
                                go_quiet (first | (go_at_call 27; refine Calls.quiet_of_same ((HZX.out _).mono fun _ _ h => ⟨h.1, h.2.symm⟩)))
                                go_wp2
                                go_meet
                                case rel => exact ⟨HQ.out _, by rw [HMM.out]; rfl⟩
                            · have hb0 : (yi == oi) = false := by simp [h0]
                              have HMM := Lib.hid (show m = false from by rw [HMB.out]; simp [h0])
                              clear h0
                              go_quiet (first | (go_at_call 27; refine Calls.quiet_of_same ((HZX.out _).mono fun _ _ h => ⟨h.1, h.2.symm⟩)))
                              go_wp2
                              go_meet
                              case rel => exact ⟨HQ.out _, by rw [HMM.out]; rfl⟩
                      case rest =>
                        obtain ⟨HFJ2, rfl⟩ := hcut
                        clear HFJ
                        cases hGm : (!G && m) with
                        | true =>
                          have hG2 := not_and hGm
                          obtain ⟨rfl, rfl⟩ := hG2
                          have hl2 := HLS.out.1 ⟨rfl, rfl⟩
                          have HL1 := Lib.hid hl2.1
                          have HL2 := Lib.hid hl2.2
                          clear hl2 hGm
                          go_wp2
                          go_roundw
                          case rel => exact ⟨j + 1, by omega, by go_num, by rw [HL2.out], by rw [HL1.out]; exact HFJ2⟩
                          case measure => simp [intOf]; omega
                        | false =>
                          have hl2 := HLS.out.2 (fun c => by rw [c.1, c.2] at hGm; cases hGm)
                          have HL1 := Lib.hid hl2.1
                          have HL2 := Lib.hid hl2.2
                          obtain ⟨y0, y1, y2, y3⟩ := HCY.out _ HFJ2.out.r4
                          have HF7 := Lib.hid (HFJ2.out.on (BW.new (Below.refl wc.heap.size wc) (.cells #[.int .i64 yi, .int .i64 ya, .int .i64 yz, .int .u64 yd] 34)))
                          have hnew : (wc.alloc (.cells #[.int .i64 yi, .int .i64 ya, .int .i64 yz, .int .u64 yd] 34)).heap[wc.heap.size]? = some (.cells (wrCells ⟨yi, ya, yz, yd⟩) 34 (0, 0)) := Blk.new _ _ _
                          clear hl2 hGm hlst
                          have hlen9 := List.length_eraseP_le (p := mB ⟨oi, oa, oz, od⟩) (l := L2.take j)
                          go_wp2_with (first
                            | (at_builtin; refine wpList_append_lies _ rfl _ _ 39 rfl base 34 iw _ 4 32 Try.underlying39 hiw hwz hwS hwb rfl (by decide) _ ((L2.take j).eraseP (mB ⟨oi, oa, oz, od⟩)).length (cellsW ((L2.take j).eraseP (mB ⟨oi, oa, oz, od⟩))) rfl HF7.out.r9 ⟨wc.heap.size, 0, none⟩ 1 1 (wrCells ⟨yi, ya, yz, yd⟩).toList rfl rfl (World.news_of_block hnew) (by intro u hu; simp [wrCells] at hu; rcases hu with rfl | rfl | rfl | rfl <;> rfl) (by decide) (by unfold maxLen; omega) (by omega) HF7.out.ge.2 _ rfl ?_; intro gv cv w8 ho8 hg8 hat8 hlt8; have HF8 := Lib.hid (HF7.out.app hg8 hat8 hlt8 ho8); clear ho8 hg8 hat8 hlt8 hnew))
                          go_roundw
                          case rel => exact ⟨j + 1, by omega, by go_num, by rw [HL2.out], by rw [HL1.out]; exact HF8⟩
                          case measure => simp [intOf]; omega
                    · have hje : j = L2.length := by omega
                      have hljI : ¬ (j : Int) < (L2.length : Int) := by omega
                      have HTA := Lib.hid (show L2.take j = L2 by rw [hje, List.take_length])
                      have hany := HTK.out.1
                      rw [← HTA.out] at hany
                      rw [hany]
                      have HNX := Lib.hid (HFJ.out.next)
                      have HLEN := Lib.hid (show ((L2.take j).eraseP (mB ⟨oi, oa, oz, od⟩)).length ≤ L.length from Nat.le_trans (List.length_eraseP_le) (by rw [HTA.out]; exact hL2))
                      clear hany hje
                      go_wp2
                      go_roundw
                      case rel => exact ⟨q + 1, _, by omega, by go_num, by rw [HTA.out]; exact Lib.hid HTK.out.2, HLEN.out, Lib.hid HNX.out.1, Lib.hid HNX.out.2⟩
                      case measure => simp [intOf]; omega
                · obtain rfl : q = O.length := by omega
                  have hlqI : ¬ (O.length : Int) < (O.length : Int) := by omega
                  have HFE := Lib.hid (show FI s' L2 [] by have := HFQ.out; rwa [List.drop_length] at this)
                  go_wp2
                  go_meet
                  case rel => exact ⟨L2, s', HFE, by omega, HDP.out, Lib.hid HFOQ.out.sub⟩
            · have hkb2 : (kd == 2) = false := by simp [hk2']
              go_wp2
              go_meet
              case rel => exact ⟨L, s, HFI, by omega, by push_cast; omega, Lib.hid HFB.out.sub⟩
      case rest =>
        as_aux_lemma =>
          obtain ⟨L', s', HFI', hL', he', HFO'⟩ := hcut
          obtain ⟨A5, cp5, hv5⟩ := own_shape HFO'.out.row
          subst hv5
          clear HFB HBX HFI
          go_wp2
          go_loopw [12] (fun v wx => ∃ t : Int, -1 ≤ t ∧ t ≤ 40 ∧ v = .int .i64 t ∧ Hid (FO W g s' L' (.slice A5 L'.length cp5) [] wx)) (fun v _ => (40 - intOf v).toNat)
          case atStart => exact ⟨-1, by omega, by omega, rfl, HFO'⟩
          case round =>
            obtain ⟨t, ht1, ht2, rfl, HFO5⟩ := hrel
            clear HFO'
            by_cases htl : t < 40
            · have hfnd := HFO5.out.ox.find t
              rw [HFI'.out.find t] at hfnd
              obtain ⟨⟨X, Y, Zb⟩, hXYZ⟩ : ∃ p, lastF t L' = p := ⟨_, rfl⟩
              rw [hXYZ] at hfnd
              have HXYZ := Lib.hid hXYZ
              have HFND := Lib.hid hfnd
              clear hXYZ hfnd
              go_wp2_with (first
                | (go_at_call 17; refine HFND.out.mono ?_; unfold findV; rintro e w6 ⟨rfl, hb6⟩; have HFO6 := Lib.hid (HFO5.out.on hb6); clear hb6))
              clear HFO5 HFND
              go_loopw [16, 17, 18, 19] (fun v16 v17 v18 v19 wy => ∃ j : Nat, j ≤ L'.length ∧ v19 = .int .i64 (j : Int) ∧ v16 = .int .u8 (lastF t (L'.take j)).1 ∧ v17 = .int .i64 (lastF t (L'.take j)).2.1 ∧ v18 = .bool (lastF t (L'.take j)).2.2 ∧ Hid (FO W g s' L' (.slice A5 L'.length cp5) [] wy)) (fun _ _ _ v19 _ => L'.length - (intOf v19).toNat)
              case atStart => exact ⟨0, by omega, rfl, rfl, rfl, rfl, HFO6⟩
              case round =>
                obtain ⟨j, hj, rfl, rfl, rfl, rfl, HFO7⟩ := hrel
                clear HFO6
                obtain ⟨⟨p1, p2, p3⟩, hp⟩ : ∃ p, lastF t (L'.take j) = p := ⟨_, rfl⟩
                rw [hp]
                by_cases hlj : j < L'.length
                · have hljI : (j : Int) < (L'.length : Int) := by omega
                  have hst := lastF_take t L' j hlj
                  obtain ⟨g5, cq5, hA5⟩ := own_cellv HFO7.out.row hlj rfl
                  cases hA5
                  obtain ⟨y0, y1, y2, y3⟩ := own_cell HFO7.out.row hlj
                  obtain ⟨hym, hyd0, hyd1⟩ := HFI'.out.may L'[j] (List.getElem_mem _)
                  obtain ⟨⟨yi, ya, yz, yd⟩, hy⟩ : ∃ y, L'[j] = y := ⟨_, rfl⟩
                  rw [hy] at y0 y1 y2 y3 hym hyd0 hyd1 hst
                  rw [hp] at hst
                  obtain ⟨_, hyz, hya0, _, hya1⟩ := mayW_out hym
                  dsimp only at y0 y1 y2 y3 hyd0 hyd1 hyz hya0 hya1
                  have hyzI : 1 ≤ yz ∧ yz ≤ 8 := by omega
                  clear hy hym hyz hp
                  by_cases h1 : ya ≤ t
                  · have hd1 : decide (ya ≤ t) = true := decide_eq_true h1
                    by_cases h2 : t < ya + yz
                    · have hd2 : decide (t < ya + yz) = true := decide_eq_true h2
                      have HST := Lib.hid (show lastF t (L'.take (j + 1)) = (byteAt yd (t - ya).toNat, yi, true) from by rw [hst]; unfold lstep hasAt; rw [if_pos (by simp [h1, h2])])
                      obtain ⟨D, hD⟩ : ∃ D, t - ya = D := ⟨_, rfl⟩
                      rw [hD] at HST
                      have hD0 : 0 ≤ D := by omega
                      have hD8 : D < 8 := by omega
                      have hw1 : IntKind.i64.wrap (t - ya) = D := by rw [IntKind.wrap_i64]; omega
                      have hw2 : IntKind.i64.wrap (8 * D) = 8 * D := by rw [IntKind.wrap_i64]; omega
                      have hw3 : IntKind.u64.wrap (8 * D) = 8 * D := by rw [IntKind.wrap_u64]; omega
                      have HV := Lib.hid (show yd / 2 ^ (8 * D).toNat % 256 = byteAt yd D.toNat by rw [show (8 * D).toNat = 8 * D.toNat by omega, byte_shift])
                      clear hst hD
                      go_wp2
                      go_quiet (fail)
                      go_wp2
                      go_quiet (fail)
                      go_wp2
                      go_roundw
                      case rel => exact ⟨j + 1, by omega, by go_num, by rw [HST.out]; show Value.int .u8 _ = _; rw [← HV.out], by rw [HST.out], by rw [HST.out], Lib.hid (HFO7.out.on (below_drewN' (Below.refl _ _) _))⟩
                      case measure => simp [intOf]; omega
                    · have hd2 : decide (t < ya + yz) = false := decide_eq_false h2
                      have HST := Lib.hid (show lastF t (L'.take (j + 1)) = (p1, p2, p3) from by rw [hst]; unfold lstep hasAt; rw [if_neg (by simp [h1, h2])])
                      clear hst
                      go_wp2
                      go_quiet (fail)
                      go_wp2
                      go_roundw
                      case rel => exact ⟨j + 1, by omega, by go_num, by rw [HST.out], by rw [HST.out], by rw [HST.out], Lib.hid (HFO7.out.on (below_drewN' (Below.refl _ _) _))⟩
                      case measure => simp [intOf]; omega
                  · have hd1 : decide (ya ≤ t) = false := decide_eq_false h1
                    have HST := Lib.hid (show lastF t (L'.take (j + 1)) = (p1, p2, p3) from by rw [hst]; unfold lstep hasAt; rw [if_neg (by simp [h1])])
                    clear hst
                    go_wp2
                    go_quiet (fail)
                    go_wp2
                    go_roundw
                    case rel => exact ⟨j + 1, by omega, by go_num, by rw [HST.out], by rw [HST.out], by rw [HST.out], Lib.hid (HFO7.out.on (below_drewN' (Below.refl _ _) _))⟩
                    case measure => simp [intOf]; omega
                · have hje : j = L'.length := by omega
                  rw [hje, List.take_length, HXYZ.out] at hp
                  cases hp
                  clear HXYZ hje
                  have hljI : ¬ (j : Int) < (L'.length : Int) := by omega
                  go_wp2
                  go_roundw
                  case rel => exact ⟨t + 1, by omega, by omega, by go_num, HFO7⟩
                  case measure => simp [intOf]; omega
            · go_wp2
              go_roundw
              case rel => exact ⟨k + 1, L', s', by omega, by omega, by go_num, HFI', hL', he', HFO5⟩
              case measure => simp [intOf]; omega
    · rcases (show (k < l.length ∧ ¬ k < 60) ∨ ¬ k < l.length by omega) with ⟨h1, h2⟩ | h1
      · have hc1' : (k : Int) < (l.length : Int) := by omega
        have hc2' : ¬ (k : Int) < 60 := by omega
        go_wp2_with (first
          | (go_at_call 8; refine (HAL.out _).mono ?_; rintro e w9 ⟨rfl, hb9⟩))
        go_ret
        exact ⟨rfl, HFO.out.ox.low.on hb9⟩
      · have hc1' : ¬ (k : Int) < (l.length : Int) := by omega
        go_wp2_with (first
          | (go_at_call 8; refine (HAL.out _).mono ?_; rintro e w9 ⟨rfl, hb9⟩))
        go_ret
        exact ⟨rfl, HFO.out.ox.low.on hb9⟩
theorem sbufFinds_law (A : Option Addr) (cap : Nat) (l : List At) (W : World) (hl : l.length ≤ cap) (hcap : cap ≤ 9223372036854775807) (hA : A = none → cap = 0 ∧ l = []) (hw : Wats l) (hr : Rd W W.heap.size A (cellsA l)) :
    Calls Try.prog 6 #[.slice A l.length cap] W fun e w' => e = .returned (.bool true) ∧ Below W.heap.size W w' :=
  finds_walk A cap l W (by omega) hw hr
end Go.Proofs.Ythifeaolodmhhaa
