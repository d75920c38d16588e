/- SbufSame: whichever entries go first, all stores leave a memory the same bytes. -/
import Derived.Test.YthifeaolodmhhaaVy
set_option maxRecDepth 100000
set_option linter.unusedVariables false
namespace Go.Proofs.Ythifeaolodmhhaa
open Go.RowKit

/-- Two rows of bytes beside the buffer. -/
structure SM (W : World) (R : List Nat) (g : Nat) (s : Bst) (g1 g2 : Nat) (l1 l2 : List Int) (w : World) : Prop where
  ox : OX W R g s w
  m : g1 ∈ R ∧ g2 ∈ R
  r1 : RowB 5 (cellsB l1) g1 w
  r2 : RowB 5 (cellsB l2) g2 w
  ge : W.heap.size ≤ g1 ∧ W.heap.size ≤ g2
  ne : g1 ≠ g2
section
variable {W w w' : World} {R : List Nat} {g : Nat} {s : Bst} {g1 g2 : Nat} {l1 l2 : List Int}
theorem SM.on (h : SM W R g s g1 g2 l1 l2 w) (k : BW w w') : SM W R g s g1 g2 l1 l2 w' :=
  ⟨h.ox.on k, h.m, h.r1.fr (Fr.of [] k) (by simp), h.r2.fr (Fr.of [] k) (by simp), h.ge, h.ne⟩
theorem SM.same {s' : Bst} (h : SM W R g s g1 g2 l1 l2 w) (k : OX W R g s' w') (hs : Same R w w') : SM W R g s' g1 g2 l1 l2 w' :=
  ⟨k, h.m, hs.rowB h.r1 h.m.1, hs.rowB h.r2 h.m.2, h.ge, h.ne⟩
/-- Blocks that lie beside may be named, or forgotten. -/
theorem SM.beside {R' : List Nat} (h : SM W R g s g1 g2 l1 l2 w) (k : BW w w') (hm : g1 ∈ R' ∧ g2 ∈ R') (hR : ∀ r ∈ R', r < w'.heap.size ∧ (r ∈ R ∨ w.heap.size ≤ r)) : SM W R' g s g1 g2 l1 l2 w' :=
  ⟨h.ox.more k hR, hm, h.r1.fr (Fr.of [] k) (by simp), h.r2.fr (Fr.of [] k) (by simp), h.ge, h.ne⟩
theorem SM.sub {R' : List Nat} (h : SM W R g s g1 g2 l1 l2 w) (hm : g1 ∈ R' ∧ g2 ∈ R') (hR : ∀ r ∈ R', r ∈ R) : SM W R' g s g1 g2 l1 l2 w :=
  h.beside (Below.refl _ _) hm (fun r hr => ⟨h.ox.2.1 r (hR r hr), .inl (hR r hr)⟩)
theorem SM.put (h : SM W R g s g1 g2 l1 l2 w) (x : Wr) (hb : x.addr ≤ 9223372036854775807) (h0 : 0 ≤ x.data) (h1 : x.data < 2 ^ 64) :
    Calls Try.prog 10 #[.pointer (some ⟨g, 0, none⟩), .agg #[.int .i64 x.id, .int .i64 x.addr, .int .i64 x.size, .int .u64 x.data]] w fun e w' => e = .returned (.bool (placeN s x).2) ∧ SM W R g (putB s x) g1 g2 l1 l2 w' ∧ Same R w w' :=
  (h.ox.put x hb h0 h1).mono fun e w' ⟨he, k, hs⟩ => ⟨he, h.same k hs, hs⟩
theorem SM.bar (h : SM W R g s g1 g2 l1 l2 w) (hE : s.ep ≤ 1000000) :
    Calls Try.prog 12 #[.pointer (some ⟨g, 0, none⟩)] w fun e w' => e = .returned (.tuple #[]) ∧ SM W R g (barB s) g1 g2 l1 l2 w' ∧ Same R w w' :=
  (h.ox.bar hE).mono fun e w' ⟨he, k, hs⟩ => ⟨he, h.same k hs, hs⟩
end
theorem cellsB_set (l : List Int) (q : Nat) (v : Int) : (cellsB l).set q (.int .u8 v) = cellsB (l.set q v) := by unfold cellsB; rw [List.map_set]
theorem SM.set1 {W w : World} {R : List Nat} {g : Nat} {s : Bst} {g1 g2 : Nat} {l1 l2 : List Int} (h : SM W R g s g1 g2 l1 l2 w) {q : Nat} (hq : q < l1.length) (v : Int) : SM W R g s g1 g2 (l1.set q v) l2 (w.setCell ⟨g1, q, none⟩ (.int .u8 v)) := by
  have hf : Fr [g1] w (w.setCell ⟨g1, q, none⟩ (.int .u8 v)) := (Fr.refl _ _).setCell (.inl (by simp)) _
  refine ⟨h.ox.set h.m.1 h.ge.1 _, h.m, ?_, h.r2.fr hf (by simp; exact fun e => h.ne e.symm), h.ge, h.ne⟩
  rw [← cellsB_set]
  exact h.r1.set (by unfold cellsB; rw [List.length_map]; exact hq) _
theorem SM.set2 {W w : World} {R : List Nat} {g : Nat} {s : Bst} {g1 g2 : Nat} {l1 l2 : List Int} (h : SM W R g s g1 g2 l1 l2 w) {q : Nat} (hq : q < l2.length) (v : Int) : SM W R g s g1 g2 l1 (l2.set q v) (w.setCell ⟨g2, q, none⟩ (.int .u8 v)) := by
  have hf : Fr [g2] w (w.setCell ⟨g2, q, none⟩ (.int .u8 v)) := (Fr.refl _ _).setCell (.inl (by simp)) _
  refine ⟨h.ox.set h.m.2 h.ge.2 _, h.m, h.r1.fr hf (by simp; exact h.ne), ?_, h.ge, h.ne⟩
  rw [← cellsB_set]
  exact h.r2.set (by unfold cellsB; rw [List.length_map]; exact hq) _
theorem SM.cell1 {W w : World} {R : List Nat} {g : Nat} {s : Bst} {g1 g2 : Nat} {l1 l2 : List Int} (h : SM W R g s g1 g2 l1 l2 w) {q : Nat} (hq : q < l1.length) : w.cell? ⟨g1, q, none⟩ = some (.int .u8 l1[q]) := by
  have := h.r1.cell (k := q) (by unfold cellsB; rw [List.length_map]; exact hq)
  simpa [cellsB] using this
theorem SM.cell2 {W w : World} {R : List Nat} {g : Nat} {s : Bst} {g1 g2 : Nat} {l1 l2 : List Int} (h : SM W R g s g1 g2 l1 l2 w) {q : Nat} (hq : q < l2.length) : w.cell? ⟨g2, q, none⟩ = some (.int .u8 l2[q]) := by
  have := h.r2.cell (k := q) (by unfold cellsB; rw [List.length_map]; exact hq)
  simpa [cellsB] using this
section
variable {P : Program} {ops : Array Oper} {Q : Exit → Act → World → Prop} {md : Region.Mode} {S : World → Prop} {fuel : Nat} {listed : Array Bool} {a : Act} {w : World}
theorem any_two {i j : Nat} (hr : Region.ready md ops listed = [i, j]) (hi : wpOp P ops Q i (fun a' w' => S w' ∧ wpAnyH P md ops Q S fuel (listed.setIfInBounds i true) a' w') a w) (hj : wpOp P ops Q j (fun a' w' => S w' ∧ wpAnyH P md ops Q S fuel (listed.setIfInBounds j true) a' w') a w) : wpAnyH P md ops Q S (fuel + 1) listed a w :=
  wpAnyH_all hr (by simp) fun m hm => by
    simp only [List.mem_cons, List.not_mem_nil, or_false] at hm
    rcases hm with rfl | rfl <;> assumption
theorem any_one {i : Nat} (hr : Region.ready md ops listed = [i]) (hi : wpOp P ops Q i (fun a' w' => S w' ∧ wpAnyH P md ops Q S fuel (listed.setIfInBounds i true) a' w') a w) : wpAnyH P md ops Q S (fuel + 1) listed a w :=
  wpAnyH_all hr (by simp) fun m hm => by
    obtain rfl : m = i := by simpa using hm
    exact hi
theorem ex_index0 {o : Oper} {t : TypeId} {x ix : Operand} {e : TypeId} {g n c j z : Nat} {q : Int} (ho : o.op = .indexAddr t x ix) (hx : a.eval x = .slice (some ⟨g, 0, none⟩) n c) (hi : a.eval ix = .int .i64 q) (hq : q = (j : Int)) (hj : j < n) (he : P.underlying t = some (.slice e)) (hs : (sizeOf e).run P w = .ok z w) :
    (execOp a.eval o).run P w = .ok (.value (.pointer (some ⟨g, j * z, none⟩))) w := by
  have h := ex_indexz ho hx hi hq hj he hs
  rw [Nat.zero_add] at h
  exact h
/-- make of n elements. -/
theorem make_op {i : Nat} {oi : Oper} {K : Act → World → Prop} (hi : ops[i]? = some oi) (gi : oi.guard = none) (l c : Operand) (t : TypeId) (hop : oi.op = Op.makeSlice t l c)
    (e : TypeId) (ii : TypeInfo) (z : Value) (size : Nat) (h1 : P.underlying t = some (.slice e)) (h2 : P.info? e = some ii) (h3 : ii.zero = some z) (h4 : ii.size = size)
    (n : Nat) (hl : a.eval l = .int .i64 (n : Int)) (hc : a.eval c = .int .i64 (n : Int)) (b2 : ii.bytes * n ≤ 281474976710656) (b3 : n ≤ maxLen)
    (hK : ∀ w', w'.ownsRow w.heap.size e size (.slice (some ⟨w.heap.size, 0, none⟩) n n) n (madeCells z.cells (n * size)).toList → w.grownBy w' none → K (a.put oi.dst (.slice (some ⟨w.heap.size, 0, none⟩) n n)) w') : wpOp P ops Q i K a w := by
  obtain ⟨w', hrun, r1, r2⟩ := run_make_full (P := P) w w.heap.size t e ii z size h1 h2 h3 h4 .i64 .i64 n b2 b3 (Nat.le_refl _)
  unfold wpOp
  simp only [hi, Region.wanted, gi, if_true]
  refine .inl ?_
  unfold Oper.wp execOp
  simp [hop, hl, hc, hrun, Result.andThen]
  exact hK w' r1 r2
end

def zs40 : List Int := List.replicate 1040 0
theorem made_zeros : (madeCells (Value.int .u8 0).cells (1040 * 1)).toList = cellsB zs40 := by
  rw [show (Value.int .u8 0).cells = #[Value.int .u8 0] from rfl, madeCells_zeros (1040 * 1)]
  unfold zerosB cellsB zs40
  rw [List.map_replicate]
theorem zs40_len : zs40.length = 1040 := List.length_replicate
set_option maxHeartbeats 8000000 in
theorem same_walk (A : Option Addr) (cap : Nat) (l : List At) (Ap : Option Addr) (capp : Nat) (ps : List Int) (W : World) (hcap : l.length ≤ 9223372036854775807) (hcapp : ps.length ≤ 9223372036854775807) (hws : Wats l) (hwp : ∀ z ∈ ps, 0 ≤ z ∧ z < 256) (hr : Rd W W.heap.size A (cellsA l)) (hrp : Rd W W.heap.size Ap (cellsB ps)) :
    Calls Try.prog 7 #[.slice A l.length cap, .slice Ap ps.length capp] W fun e w' => e = .returned (.bool true) ∧ BW W w' := by
  have HAL := Lib.hid (fun w => alive13_any w)
  have HRI := Lib.hid hr
  have HRP := Lib.hid hrp
  have HWP := Lib.hid hwp
  have HF := Lib.hid (fun k (hk : k ≤ l.length) => acc_facts l hws k hk)
  have HW := Lib.hid hws
  have HZ := Lib.hid zs40_len
  clear hr hrp hwp hws
  go_enter Try.func7, Try.ntmps7
  go_upto_region 4 with (first
    | (go_at_call 8; refine (HAL.out _).mono ?_; rintro e w1 ⟨rfl, hb⟩; have HB1 := Lib.hid hb; have HX0 := Lib.hid (OX.new (R := []) hb (by simp)); clear hb))
  obtain ⟨g, hg⟩ : ∃ g, w1.heap.size = g := ⟨_, rfl⟩
  rw [hg] at HX0 ⊢
  obtain ⟨w2, hw2⟩ : ∃ w2, w1.alloc (.cells #[.slice none 0 0, .int .i64 0] 27) = w2 := ⟨_, rfl⟩
  rw [hw2] at HX0 ⊢
  clear hw2 hg
  go_cut [6, 7] from 21 to 22 (fun s6 s7 wx => ∃ g1 g2 : Nat, s6 = .slice (some ⟨g1, 0, none⟩) 1040 1040 ∧ s7 = .slice (some ⟨g2, 0, none⟩) 1040 1040 ∧ Hid (SM W [g1, g2] g ⟨[], 0⟩ g1 g2 zs40 zs40 wx))
  case first =>
    obtain ⟨i0, hi, hz0, hz1, hz2⟩ := info_parts Try.info5
    refine wp_region_held (S := fun _ => True) (by kernel_rfl) ?_
    change wpAnyH _ _ _ _ _ _ _ _ (World.drew _)
    have HX1 := Lib.hid (HX0.out.on (Below.drew (Below.refl _ _)))
    clear HX0
    generalize World.drew _ = w3 at *
    have HEND : ∀ w4 w5, w4.ownsRow w3.heap.size 5 1 (.slice (some ⟨w3.heap.size, 0, none⟩) 1040 1040) 1040 (cellsB zs40) → w3.grownBy w4 none → w5.ownsRow w4.heap.size 5 1 (.slice (some ⟨w4.heap.size, 0, none⟩) 1040 1040) 1040 (cellsB zs40) → w4.grownBy w5 none →
        SM W [w3.heap.size, w4.heap.size] g ⟨[], 0⟩ w3.heap.size w4.heap.size zs40 zs40 w5 ∧ SM W [w4.heap.size, w3.heap.size] g ⟨[], 0⟩ w4.heap.size w3.heap.size zs40 zs40 w5 := fun w4 w5 h1 h2 h3 h4 => by
      have k4 : w3.heap.size < w4.heap.size := (h1.lt _ rfl).2
      have k5 : w4.heap.size < w5.heap.size := (h3.lt _ rfl).2
      have b4 : BW w3 w4 := ⟨h2.os, h2.tape, h2.output, h2.size, fun i hi => h2.block i hi (by simp)⟩
      have b5 : BW w4 w5 := ⟨h4.os, h4.tape, h4.output, h4.size, fun i hi => h4.block i hi (by simp)⟩
      have hW := Below.size HX1.out.low
      have q1 := (RowB.of_own (h1.kept h4 (.inr (by simp [Value.ownBlock]))))
      have q2 := RowB.of_own h3
      refine ⟨⟨HX1.out.more (b4.on b5) ?_, by simp, q1, q2, ⟨by omega, by omega⟩, by omega⟩, ⟨HX1.out.more (b4.on b5) ?_, by simp, q2, q1, ⟨by omega, by omega⟩, by omega⟩⟩
      · intro r hr
        simp at hr
        rcases hr with rfl | rfl <;> exact ⟨by omega, .inr (by omega)⟩
      · intro r hr
        simp at hr
        rcases hr with rfl | rfl <;> exact ⟨by omega, .inr (by omega)⟩
    refine any_two (i := 0) (j := 1) (by kernel_rfl) ?_ ?_
    · refine make_op (i := 0) (oi := ⟨some 21, .makeSlice _ _ _, _, _, _, _⟩) rfl rfl _ _ 50 rfl 5 i0 _ 1 Try.underlying50 hi hz0 hz1 1040 rfl rfl (by rw [hz2]; decide) (by unfold maxLen; decide) ?_
      intro w4 o4 g4
      refine ⟨trivial, ?_⟩
      simp only [Act.put, List.setIfInBounds_toArray, List.set_cons_zero, List.set_cons_succ]
      refine hk_val (i := 2) (oi := ⟨some 6, .assign _, _, _, _, _⟩) (.slice (some ⟨w3.heap.size, 0, none⟩) 1040 1040) rfl (by kernel_rfl) (by kernel_rfl) (by kernel_rfl) (fun _ _ _ h => h) (by kernel_rfl) (fun _ _ => rfl) trivial ?_
      simp only [Act.put, List.setIfInBounds_toArray, List.set_cons_zero, List.set_cons_succ]
      refine any_one (i := 1) (by kernel_rfl) ?_
      refine make_op (i := 1) (oi := ⟨some 22, .makeSlice _ _ _, _, _, _, _⟩) rfl rfl _ _ 50 rfl 5 i0 _ 1 Try.underlying50 hi hz0 hz1 1040 rfl rfl (by rw [hz2]; decide) (by unfold maxLen; decide) ?_
      intro w5 o5 g5
      refine ⟨trivial, ?_⟩
      simp only [Act.put, List.setIfInBounds_toArray, List.set_cons_zero, List.set_cons_succ]
      refine hk_val (i := 3) (oi := ⟨some 7, .assign _, _, _, _, _⟩) (.slice (some ⟨w4.heap.size, 0, none⟩) 1040 1040) rfl (by kernel_rfl) (by kernel_rfl) (by kernel_rfl) (fun _ _ _ h => h) (by kernel_rfl) (fun _ _ => rfl) trivial ?_
      simp only [Act.put, List.setIfInBounds_toArray, List.set_cons_zero, List.set_cons_succ]
      refine wpAnyH_done (by kernel_rfl) ?_ _
      rw [made_zeros] at o4 o5
      have HQ := Lib.hid (HEND w4 w5 o4 g4 o5 g5).1
      clear o4 g4 o5 g5 HEND
      go_wp2
      go_meet
      case rel => exact ⟨_, _, rfl, rfl, HQ⟩
    · refine make_op (i := 1) (oi := ⟨some 22, .makeSlice _ _ _, _, _, _, _⟩) rfl rfl _ _ 50 rfl 5 i0 _ 1 Try.underlying50 hi hz0 hz1 1040 rfl rfl (by rw [hz2]; decide) (by unfold maxLen; decide) ?_
      intro w4 o4 g4
      refine ⟨trivial, ?_⟩
      simp only [Act.put, List.setIfInBounds_toArray, List.set_cons_zero, List.set_cons_succ]
      refine any_one (i := 0) (by kernel_rfl) ?_
      refine make_op (i := 0) (oi := ⟨some 21, .makeSlice _ _ _, _, _, _, _⟩) rfl rfl _ _ 50 rfl 5 i0 _ 1 Try.underlying50 hi hz0 hz1 1040 rfl rfl (by rw [hz2]; decide) (by unfold maxLen; decide) ?_
      intro w5 o5 g5
      refine ⟨trivial, ?_⟩
      simp only [Act.put, List.setIfInBounds_toArray, List.set_cons_zero, List.set_cons_succ]
      refine hk_val (i := 2) (oi := ⟨some 6, .assign _, _, _, _, _⟩) (.slice (some ⟨w4.heap.size, 0, none⟩) 1040 1040) rfl (by kernel_rfl) (by kernel_rfl) (by kernel_rfl) (fun _ _ _ h => h) (by kernel_rfl) (fun _ _ => rfl) trivial ?_
      simp only [Act.put, List.setIfInBounds_toArray, List.set_cons_zero, List.set_cons_succ]
      refine hk_val (i := 3) (oi := ⟨some 7, .assign _, _, _, _, _⟩) (.slice (some ⟨w3.heap.size, 0, none⟩) 1040 1040) rfl (by kernel_rfl) (by kernel_rfl) (by kernel_rfl) (fun _ _ _ h => h) (by kernel_rfl) (fun _ _ => rfl) trivial ?_
      simp only [Act.put, List.setIfInBounds_toArray, List.set_cons_zero, List.set_cons_succ]
      refine wpAnyH_done (by kernel_rfl) ?_ _
      rw [made_zeros] at o4 o5
      have HQ := Lib.hid (HEND w4 w5 o4 g4 o5 g5).2
      clear o4 g4 o5 g5 HEND
      go_wp2
      go_meet
      case rel => exact ⟨_, _, rfl, rfl, HQ⟩
  case rest =>
    obtain ⟨g1, g2, rfl, rfl, HSM0⟩ := hcut
    clear HX0
    go_wp2
    go_loopw [8] (fun i wx => ∃ k : Nat, k ≤ l.length ∧ k ≤ 60 ∧ i = .int .i64 (k : Int) ∧ Hid (SM W [g1, g2] g (runA l k) g1 g2 (bytesM zs40 (accS l k)) zs40 wx)) (fun i _ => 60 - (intOf i).toNat)
    case atStart => exact ⟨0, by omega, by omega, rfl, by rw [runA_zero]; unfold accS; rw [bytesM_nil]; exact HSM0⟩
    case round =>
      obtain ⟨k, hk1, hk2, rfl, HSM⟩ := hrel
      clear HSM0
      by_cases hc : k < l.length ∧ k < 60
      · obtain ⟨hc1, hc2⟩ := hc
        have hc1' : (k : Int) < (l.length : Int) := by omega
        have hc2' : (k : Int) < 60 := by omega
        obtain ⟨b, off, hB, hbl, hcell⟩ := at_cell HRI.out (by omega)
        subst hB
        have hat := hcell k hc1
        have hwk := HW.out _ (List.getElem_mem hc1)
        have hsu := runA_succ l k hc1
        have hac : accS l (k + 1) = if l[k].kind ≠ 1 ∧ (placeN (runA l k) l[k].w).2 = true then accS l k ++ [l[k].w] else accS l k := by
          show (if _ then _ else _) = _
          rw [getD_at hc1]
        have hep := runA_ep l k hk1
        obtain ⟨⟨kd, ⟨i, a, z, d⟩⟩, hx⟩ : ∃ x, l[k] = x := ⟨_, rfl⟩
        rw [hx] at hat hwk hsu hac
        dsimp only at hat hwk hsu hac
        clear hcell hx
        obtain ⟨s, hs⟩ : ∃ s, runA l k = s := ⟨_, rfl⟩
        obtain ⟨s', hs'⟩ : ∃ s, runA l (k + 1) = s := ⟨_, rfl⟩
        obtain ⟨C, hC⟩ : ∃ C, accS l k = C := ⟨_, rfl⟩
        obtain ⟨C', hC'⟩ : ∃ C, accS l (k + 1) = C := ⟨_, rfl⟩
        rw [hs, hC] at HSM
        rw [hs] at hsu hep hac
        rw [hs'] at hsu
        rw [hC, hC'] at hac
        have HFA := Lib.hid (show SM W [g1, g2] g s' g1 g2 (bytesM zs40 C') zs40 = SM W [g1, g2] g (runA l (k + 1)) g1 g2 (bytesM zs40 (accS l (k + 1))) zs40 by rw [hs', hC'])
        clear hs hs' hC hC'
        have hE : s.ep ≤ 1000000 := by omega
        have HBL := HSM.out.ox.low
        obtain ⟨a0, a1, a2, a3, a4⟩ := hat
        have c0 := (Below.cell HBL (p := ⟨b, off + k * 5, none⟩) hbl).trans a0
        have c1 := (Below.cell HBL (p := ⟨b, off + k * 5 + 1, none⟩) hbl).trans a1
        have c2 := (Below.cell HBL (p := ⟨b, off + k * 5 + 2, none⟩) hbl).trans a2
        have c3 := (Below.cell HBL (p := ⟨b, off + k * 5 + 3, none⟩) hbl).trans a3
        have c4 := (Below.cell HBL (p := ⟨b, off + k * 5 + 4, none⟩) hbl).trans a4
        clear a0 a1 a2 a3 a4
        have HSB := Lib.hid (HSM.out.beside (R' := [g1, g2, wr.heap.size]) (BW.new (Below.refl wr.heap.size wr) (.cells #[.int .i64 i, .int .i64 a, .int .i64 z, .int .u64 d] 34)) (by simp) (by
          intro r hr
          have h2 := HSM.out.ox.2.1
          simp at hr
          rw [World.size_alloc]
          rcases hr with rfl | rfl | rfl
          · have := h2 r (by simp); exact ⟨by omega, .inl (by simp)⟩
          · have := h2 r (by simp); exact ⟨by omega, .inl (by simp)⟩
          · exact ⟨by omega, .inr (Nat.le_refl _)⟩))
        have HBX := Lib.hid (Blk.new #[.int .i64 i, .int .i64 a, .int .i64 z, .int .u64 d] 34 wr)
        have d0 := cell_old c0 (.cells #[.int .i64 i, .int .i64 a, .int .i64 z, .int .u64 d] 34)
        have HBAR := Lib.hid (fun X (hX : SM W [g1, g2, wr.heap.size] g s g1 g2 (bytesM zs40 C) zs40 X) => hX.bar hE)
        have HPUT := Lib.hid (fun X (hX : SM W [g1, g2, wr.heap.size] g s g1 g2 (bytesM zs40 C) zs40 X) => hX.put ⟨i, a, z, d⟩ hwk.w.addr.2 hwk.w.data.1 hwk.w.data.2)
        by_cases hkd : kd = 1
        · subst hkd
          rw [if_neg (fun c => c.1 rfl)] at hac
          unfold actB at hsu
          rw [if_pos rfl] at hsu
          have HSU := Lib.hid hsu
          have HAC := Lib.hid hac
          clear hsu hac
          go_wp2_with (first
            | (go_at_call 12; refine (HBAR.out _ HSB.out).mono ?_; rintro e w6 ⟨rfl, hsm, _⟩; have HSM6 := Lib.hid hsm; clear hsm))
          go_roundw
          case rel => exact ⟨k + 1, by omega, by omega, by go_num, by rw [← HFA.out, HSU.out, HAC.out]; exact HSM6.out.sub (by simp) (by simp)⟩
          case measure => simp [intOf]; omega
        · unfold actB at hsu
          rw [if_neg hkd] at hsu
          have HSU := Lib.hid hsu
          cases hok : (placeN s ⟨i, a, z, d⟩).2 with
          | false =>
            rw [hok] at HPUT
            rw [if_neg (fun c => by have := c.2; rw [hok] at this; cases this)] at hac
            have HAC := Lib.hid hac
            clear hsu hac hok
            have hkb : (kd == 1) = false := by simp [hkd]
            have e1 : (wr.alloc (.cells #[.int .i64 i, .int .i64 a, .int .i64 z, .int .u64 d] 34)).cell? ⟨wr.heap.size, 0, none⟩ = some (.int .i64 i) := HBX.out.cell 0
            go_wp2_with (first
              | (go_at_call 10; refine (HPUT.out _ HSB.out).mono ?_; rintro e w6 ⟨rfl, hsm, _⟩; have HSM6 := Lib.hid hsm; clear hsm))
            go_roundw
            case rel => exact ⟨k + 1, by omega, by omega, by go_num, by rw [← HFA.out, HSU.out, HAC.out]; exact HSM6.out.sub (by simp) (by simp)⟩
            case measure => simp [intOf]; omega
          | true =>
            rw [hok] at HPUT
            rw [if_pos ⟨hkd, hok⟩] at hac
            have HAC := Lib.hid hac
            obtain ⟨_, hz, ha0, _, ha1⟩ := mayW_out (placeN_yes hok).1
            dsimp only at hz ha0 ha1
            clear hsu hac hok
            obtain ⟨AN, hAN⟩ : ∃ AN : Nat, a = (AN : Int) := ⟨a.toNat, by omega⟩
            obtain ⟨Z, hZ⟩ : ∃ Z : Nat, z = (Z : Int) := ⟨z.toNat, by omega⟩
            have hZ8 : 1 ≤ Z ∧ Z ≤ 8 := by omega
            have hA1 : AN ≤ 1024 := by omega
            have HAL' := Lib.hid (show setB (bytesM zs40 C) AN d Z = bytesM zs40 (C ++ [⟨i, a, z, d⟩]) from setB_all zs40 C ⟨i, a, z, d⟩ hAN hZ (by rw [HZ.out]; omega))
            have HLB := Lib.hid (fun q => (setB_len (bytesM zs40 C) AN d q).trans ((bytesM_len zs40 C).trans HZ.out))
            have HZI := Lib.hid hZ
            have HAI := Lib.hid hAN
            have hzI : 1 ≤ z ∧ z ≤ 8 := by omega
            have haI : 0 ≤ a ∧ a ≤ 1024 := by omega
            clear hz hZ hAN ha0 ha1
            have hkb : (kd == 1) = false := by simp [hkd]
            have e1 : (wr.alloc (.cells #[.int .i64 i, .int .i64 a, .int .i64 z, .int .u64 d] 34)).cell? ⟨wr.heap.size, 0, none⟩ = some (.int .i64 i) := HBX.out.cell 0
            go_wp2_with (first
              | (go_at_call 10; refine (HPUT.out _ HSB.out).mono ?_; rintro e w6 ⟨rfl, hsm, hsame⟩; have HSM6 := Lib.hid hsm; have HBX6 := Lib.hid (hsame.blk HBX.out (by simp)); clear hsm hsame))
            have HNE := Lib.hid (show g1 ≠ wr.heap.size ∧ g2 ≠ wr.heap.size from ⟨by have := HSM.out.ox.2.1 g1 (by simp); omega, by have := HSM.out.ox.2.1 g2 (by simp); omega⟩)
            clear HSB HBX HPUT HBAR e1 HSM
            obtain ⟨Bx, hBx⟩ : ∃ Bx, wr.heap.size = Bx := ⟨_, rfl⟩
            rw [hBx] at HSM6 HBX6 HNE ⊢
            clear hBx d0 c0 c1 c2 c3 c4
            go_loopw [10] (fun v wy => ∃ (q : Nat) (J : Int), q ≤ Z ∧ v = .int .i64 J ∧ Hid (J = q) ∧ 0 ≤ J ∧ J ≤ 8 ∧ Hid (SM W [g1, g2, Bx] g (putB s ⟨i, a, z, d⟩) g1 g2 (setB (bytesM zs40 C) AN d q) zs40 wy) ∧ Hid (Blk #[.int .i64 i, .int .i64 a, .int .i64 z, .int .u64 d] 34 Bx wy)) (fun v _ => Z - (intOf v).toNat)
            case atStart => exact ⟨0, 0, by omega, rfl, Lib.hid rfl, by omega, by omega, HSM6, HBX6⟩
            case round =>
              obtain ⟨q, J, hq, rfl, HJ, hJ0, hJ8, HSQ, HBQ⟩ := hrel
              clear HSM6 HBX6
              rename_i wq
              have e1 : wr.cell? ⟨Bx, 1, none⟩ = some (.int .i64 a) := HBQ.out.cell 1
              have e2 : wr.cell? ⟨Bx, 2, none⟩ = some (.int .i64 z) := HBQ.out.cell 2
              have e3 : wr.cell? ⟨Bx, 3, none⟩ = some (.int .u64 d) := HBQ.out.cell 3
              by_cases hlt : q < Z
              · have hJz : J < z := by have := HJ.out; have := HZI.out; omega
                have hJ7 : J < 8 := by omega
                obtain ⟨qa, hqa⟩ : ∃ qa, AN + q = qa := ⟨_, rfl⟩
                have hqaI : a + J = (qa : Int) := by have := HJ.out; have := HAI.out; omega
                have hqa3 : qa < 1040 := by omega
                have hqaL : (qa : Int) < 1040 := by omega
                have hw1 : IntKind.i64.wrap (a + J) = (qa : Int) := by rw [IntKind.wrap_i64]; omega
                have hw2 : IntKind.i64.wrap (8 * J) = 8 * J := by rw [IntKind.wrap_i64]; omega
                have hw3 : IntKind.u64.wrap (8 * J) = 8 * J := by rw [IntKind.wrap_u64]; omega
                have hqlen : qa < (setB (bytesM zs40 C) AN d q).length := by rw [HLB.out]; exact hqa3
                have e4 := HSQ.out.cell1 hqlen
                have e5 := HSQ.out.r1.free qa
                have HV := Lib.hid (show d / 2 ^ (8 * J).toNat % 256 = byteAt d q by rw [show (8 * J).toNat = 8 * q by have := HJ.out; omega, byte_shift])
                have HS7 := Lib.hid (show SM W [g1, g2, Bx] g (putB s ⟨i, a, z, d⟩) g1 g2 (setB (bytesM zs40 C) AN d (q + 1)) zs40 (wr.setCell ⟨g1, qa, none⟩ (.int .u8 (d / 2 ^ (8 * J).toNat % 256))) by
                  rw [HV.out]
                  have := HSQ.out.set1 hqlen (byteAt d q)
                  rw [← hqa] at this ⊢
                  exact this)
                have HB7 := Lib.hid (HBQ.out.other (a := ⟨g1, qa, none⟩) (fun e => HNE.out.1 e.symm) (.int .u8 (d / 2 ^ (8 * J).toNat % 256)))
                clear hqaI hqa
                go_wp2
                go_roundw
                case rel => exact ⟨q + 1, J + 1, by omega, by go_num, Lib.hid (by have := HJ.out; push_cast; omega), by omega, by omega, HS7, HB7⟩
                case measure => have := HJ.out; simp [intOf]; omega
              · have hJz : ¬ J < z := by have := HJ.out; have := HZI.out; omega
                have HQZ := Lib.hid (show q = Z by omega)
                go_wp2
                go_roundw
                case rel => exact ⟨k + 1, by omega, by omega, by go_num, by rw [← HFA.out, HSU.out, HAC.out, ← HAL'.out, ← HQZ.out]; exact HSQ.out.sub (by simp) (by simp)⟩
                case measure => simp [intOf]; omega
      · rcases (show (k < l.length ∧ ¬ k < 60) ∨ ¬ k < l.length by omega) with ⟨h1, h2⟩ | h1
        · have hc1' : (k : Int) < (l.length : Int) := by omega
          have hc2' : ¬ (k : Int) < 60 := by omega
          obtain ⟨hok0, hmayC, hfbC⟩ := HF.out k hk1
          have HMC := Lib.hid hmayC
          have HFB := Lib.hid hfbC
          have HOK0 := Lib.hid hok0
          have hes4 := hok0.len
          clear hmayC hfbC hok0
          obtain ⟨s0, hs0⟩ : ∃ s, runA l k = s := ⟨_, rfl⟩
          obtain ⟨C, hC⟩ : ∃ C, accS l k = C := ⟨_, rfl⟩
          rw [hs0] at HSM HFB HOK0 hes4
          rw [hC] at HSM HMC HFB
          clear hs0 hC
          go_wp2
          go_loopw [11] (fun v wx => ∃ (n : Nat) (D : List Wr) (s : Bst), n ≤ 4 ∧ v = .int .i64 (n : Int) ∧ Hid (Dn s0 s D n) ∧ Hid (SM W [g1, g2] g s g1 g2 (bytesM zs40 C) (bytesM zs40 D) wx)) (fun v _ => 60 - (intOf v).toNat)
          case atStart => exact ⟨0, [], s0, by omega, rfl, Lib.hid (Dn.start HOK0.out), by rw [bytesM_nil]; exact HSM⟩
          case round =>
            obtain ⟨n, D, s, hn4, rfl, HDN, HSD⟩ := hrel
            clear HSM
            rename_i wk
            have hn60 : (n : Int) < 60 := by omega
            have HEM := Lib.hid (HSD.out.ox.empty)
            by_cases he : s.es.length = 0
            · rw [decide_eq_true he] at HEM
              have HEQ := Lib.hid (show bytesM zs40 C = bytesM zs40 D from by
                rw [← bytesM_low]
                refine bytesM_fb _ (fun x hx => ?_) (fun x hx => (HDN.out.may x hx).may) (fun β => ?_)
                · obtain ⟨y, hy, rfl⟩ := List.mem_map.1 hx
                  rw [mayW_low]
                  exact HMC.out y hy
                · rw [HFB.out, ← HDN.out.same, flat_nil he, List.append_nil])
              have HSA := Lib.hid (same_any (some ⟨g1, 0, none⟩) (some ⟨g2, 0, none⟩) 1040 1040 (bytesM zs40 C) (bytesM zs40 D) wr (by rw [bytesM_len, HZ.out]; decide) HSD.out.r1.rd HSD.out.r2.rd)
              rw [decide_eq_true HEQ.out, bytesM_len, bytesM_len, HZ.out] at HSA
              have HBW := Lib.hid HSD.out.ox.low
              go_wp2_with (first
                | (go_at_call 24; refine HEM.out.mono ?_; rintro e w7 ⟨rfl, rfl⟩)
                | (go_at_call 28; refine HSA.out.mono ?_; rintro e w8 ⟨rfl, hb8⟩))
              go_ret
              exact ⟨rfl, HBW.out.on hb8⟩
            · rw [decide_eq_false he] at HEM
              have HRE := Lib.hid (HSD.out.ox.ready)
              have hrl := rdy_some (s := s) (by omega)
              have hrl4 : (rdyI s s.es.length).length ≤ 4 := Nat.le_trans (rdyI_len _ _) HDN.out.ok.len
              have HMG := Lib.hid (fun q (hq : q ∈ rdyI s s.es.length) => (mayGo_iff s q).1 hq)
              obtain ⟨rd, hrd⟩ : ∃ rd, rdyI s s.es.length = rd := ⟨_, rfl⟩
              rw [hrd] at HRE hrl hrl4 HMG
              clear hrd
              obtain ⟨rl, hrle⟩ : ∃ rl, rd.length = rl := ⟨_, rfl⟩
              rw [hrle] at HRE hrl hrl4
              have HRL := Lib.hid hrle
              clear hrle
              have hr0 : ((rl : Int) == 0) = false := by simp; omega
              go_upto_if 85 with (first
                | (go_at_call 24; refine HEM.out.mono ?_; rintro e w7 ⟨rfl, rfl⟩)
                | (go_at_call 22; refine HRE.out.mono ?_; rintro e w7 ⟨v7, rfl, ho7, hb7⟩; obtain ⟨A7, c7, rfl⟩ := own_shape ho7; have HO7 := Lib.hid (Rd.of_own ho7); have HSD7 := Lib.hid (HSD.out.on hb7); clear ho7 hb7))
              have hrlI : (0 : Int) < (rl : Int) ∧ (rl : Int) ≤ 4 := by omega
              go_cut [13] from 82 to 93 (fun s13 wx => w7 = wx ∧ ∃ kk : Nat, s13 = .int .i64 (kk : Int) ∧ kk < rl)
              case first =>
                by_cases hn : n < ps.length
                · have hnI : (n : Int) < (ps.length : Int) := by omega
                  obtain ⟨bp, offp, hAp, hbp, hcp⟩ := HRP.out.at (i := n) (by unfold cellsB; rw [List.length_map]; exact hn)
                  subst hAp
                  simp only [cellsB, List.getElem_map] at hcp
                  have hcp' := (Below.cell HSD7.out.ox.low (p := ⟨bp, offp + n, none⟩) hbp).trans hcp
                  have hpv := HWP.out ps[n] (List.getElem_mem _)
                  generalize ps[n] = pv at *
                  have hpw : IntKind.i64.wrap pv = pv := by rw [IntKind.wrap_i64]; omega
                  have hmod : 0 ≤ pv % (rl : Int) ∧ pv % (rl : Int) < (rl : Int) := ⟨Int.emod_nonneg _ (by omega), Int.emod_lt_of_pos _ (by omega)⟩
                  have htm : pv.tmod (rl : Int) = pv % (rl : Int) := Int.tmod_eq_emod_of_nonneg hpv.1
                  have hmw : IntKind.i64.wrap (pv % (rl : Int)) = pv % (rl : Int) := by rw [IntKind.wrap_i64]; omega
                  go_wp2
                  go_meet
                  case rel =>
                    exact ⟨rfl, (pv % (rl : Int)).toNat, by rw [Int.toNat_of_nonneg hmod.1], by omega⟩
                · have hnI : ¬ (n : Int) < (ps.length : Int) := by omega
                  go_wp2
                  go_meet
                  case rel => exact ⟨rfl, 0, rfl, by omega⟩
              case rest =>
                obtain ⟨rfl, kk, rfl, hkk⟩ := hcut
                have hkkr : kk < rd.length := by rw [HRL.out]; exact hkk
                obtain ⟨b7, off7, hA7, hb7l, hc7⟩ := HO7.out.at (i := kk) (by unfold cellsI; rw [List.length_map]; exact hkkr)
                subst hA7
                simp only [cellsI, List.getElem_map] at hc7
                have hq := HMG.out rd[kk] (List.getElem_mem _)
                obtain ⟨q, hqe⟩ : ∃ q, rd[kk] = q := ⟨_, rfl⟩
                rw [hqe] at hc7 hq
                have hkkI : (0 : Int) ≤ (kk : Int) ∧ (kk : Int) < (rl : Int) := by omega
                clear hqe
                have HDR := Lib.hid (HSD7.out.ox.dra q)
                have hDn := HDN.out.step hq
                obtain ⟨O, hO⟩ : ∃ O, outB s q = O := ⟨_, rfl⟩
                obtain ⟨s', hs'⟩ : ∃ s', draB s q = s' := ⟨_, rfl⟩
                have hOk := out_ok HDN.out.ok (q := q)
                have hOn : 0 < O.length ∧ O.length ≤ 8 := by
                  rw [← hO]
                  unfold outB
                  rw [if_pos hq]
                  unfold mayGo at hq
                  simp only [Bool.and_eq_true, decide_eq_true_eq] at hq
                  have hk' : q.toNat < s.es.length := by omega
                  rw [getD_ent hk']
                  exact HDN.out.ok.some _ (List.getElem_mem _)
                obtain ⟨hOn, hO8⟩ := hOn
                rw [hO, hs'] at HDR hDn
                rw [hO] at hOk
                have HDN1 := Lib.hid hDn
                have HOK := Lib.hid hOk
                have hn4' : n + 1 ≤ 4 := by have := hDn.len; omega
                clear hDn hOk hq hO hs' HMG HRE HO7
                go_wp2_with (first
                  | (go_at_call 15; refine HDR.out.mono ?_; rintro e w8 ⟨⟨v8, rfl, ho8, hn8, hx8⟩, hs8⟩; obtain ⟨g8, c8, rfl, hg8, _⟩ := ho8.form hOn; have HO8 := Lib.hid ho8; have HS8 := Lib.hid (show SM W [g1, g2, g8] g s' g1 g2 (bytesM zs40 C) (bytesM zs40 D) w8 from ⟨hx8 [g1, g2, g8] (by intro r hr; simp at hr; rcases hr with rfl | rfl | rfl; exact .inl (by simp); exact .inl (by simp); exact .inr rfl), by simp, hs8.rowB HSD7.out.r1 (by simp), hs8.rowB HSD7.out.r2 (by simp), HSD7.out.ge, HSD7.out.ne⟩); have HN8 := Lib.hid (show g8 ≠ g1 ∧ g8 ≠ g2 from ⟨fun e => hn8 g8 rfl (by simp [e]), fun e => hn8 g8 rfl (by simp [e])⟩); have HG8 := Lib.hid hg8; clear ho8 hn8 hx8 hs8 hg8))
                obtain ⟨m, hm⟩ : ∃ m, O.length = m := ⟨_, rfl⟩
                rw [hm] at HO8 hOn hO8 ⊢
                have HM := Lib.hid hm
                clear hm HSD7 HSD HEM
                go_loopw [15] (fun v wx => ∃ i : Nat, i ≤ m ∧ v = .int .i64 (i : Int) ∧ Hid (SM W [g1, g2, g8] g s' g1 g2 (bytesM zs40 C) (bytesM zs40 (D ++ O.take i)) wx) ∧ Hid (wx.ownsRow W.heap.size 34 4 (.slice (some ⟨g8, 0, none⟩) m c8) m (cellsW O))) (fun v _ => m - (intOf v).toNat)
                case atStart => exact ⟨0, by omega, rfl, by rw [List.take_zero, List.append_nil]; exact HS8, HO8⟩
                case round =>
                  obtain ⟨i, him, rfl, HSI, HOI⟩ := hrel
                  clear HS8 HO8
                  rename_i wj
                  by_cases hlt : i < m
                  · have hltI : (i : Int) < (m : Int) := by omega
                    have hio : i < O.length := by rw [HM.out]; exact hlt
                    have hox := HOK.out O[i] (List.getElem_mem _)
                    have HTK := Lib.hid (show O.take (i + 1) = O.take i ++ [O[i]] from List.take_succ_eq_append_getElem hio)
                    have HCE := Lib.hid (fun (X : World) (hX : X.ownsRow W.heap.size 34 4 (.slice (some ⟨g8, 0, none⟩) m c8) m (cellsW O)) => own_cell hX hio)
                    obtain ⟨⟨xi, a, z, d⟩, hx⟩ : ∃ x, O[i] = x := ⟨_, rfl⟩
                    rw [hx] at hox HTK HCE
                    dsimp only at HCE
                    obtain ⟨_, hz, ha0, _, ha1⟩ := mayW_out hox.may
                    dsimp only at hz ha0 ha1
                    clear hx hio
                    obtain ⟨AN, hAN⟩ : ∃ AN : Nat, a = (AN : Int) := ⟨a.toNat, by omega⟩
                    obtain ⟨Z, hZ⟩ : ∃ Z : Nat, z = (Z : Int) := ⟨z.toNat, by omega⟩
                    have hZ8 : 1 ≤ Z ∧ Z ≤ 8 := by omega
                    have hA1 : AN ≤ 1024 := by omega
                    have HAL' := Lib.hid (show setB (bytesM zs40 (D ++ O.take i)) AN d Z = bytesM zs40 (D ++ O.take (i + 1)) from by
                      rw [HTK.out, ← List.append_assoc]
                      exact setB_all zs40 (D ++ O.take i) ⟨xi, a, z, d⟩ hAN hZ (by rw [HZ.out]; omega))
                    have HLB := Lib.hid (fun q => (setB_len (bytesM zs40 (D ++ O.take i)) AN d q).trans ((bytesM_len zs40 (D ++ O.take i)).trans HZ.out))
                    have HZI := Lib.hid hZ
                    have HAI := Lib.hid hAN
                    have hzI : 1 ≤ z ∧ z ≤ 8 := by omega
                    have haI : 0 ≤ a ∧ a ≤ 1024 := by omega
                    clear hz hZ hAN ha0 ha1 hox
                    go_wp2
                    go_loopw [16] (fun v wy => ∃ (q : Nat) (J : Int), q ≤ Z ∧ v = .int .i64 J ∧ Hid (J = q) ∧ 0 ≤ J ∧ J ≤ 8 ∧ Hid (SM W [g1, g2, g8] g s' g1 g2 (bytesM zs40 C) (setB (bytesM zs40 (D ++ O.take i)) AN d q) wy) ∧ Hid (wy.ownsRow W.heap.size 34 4 (.slice (some ⟨g8, 0, none⟩) m c8) m (cellsW O))) (fun v _ => Z - (intOf v).toNat)
                    case atStart => exact ⟨0, 0, by omega, rfl, Lib.hid rfl, by omega, by omega, HSI, HOI⟩
                    case round =>
                      obtain ⟨q, J, hq, rfl, HJ, hJ0, hJ8, HSQ, HOQ⟩ := hrel
                      clear HSI HOI
                      obtain ⟨e0, e1, e2, e3⟩ := HCE.out _ HOQ.out
                      by_cases hlq : q < Z
                      · have hJz : J < z := by have := HJ.out; have := HZI.out; omega
                        have hJ7 : J < 8 := by omega
                        obtain ⟨qa, hqa⟩ : ∃ qa, AN + q = qa := ⟨_, rfl⟩
                        have hqaI : a + J = (qa : Int) := by have := HJ.out; have := HAI.out; omega
                        have hqa3 : qa < 1040 := by omega
                        have hqlen : qa < (setB (bytesM zs40 (D ++ O.take i)) AN d q).length := by rw [HLB.out]; exact hqa3
                        have HV := Lib.hid (show d / 2 ^ (8 * J).toNat % 256 = byteAt d q by rw [show (8 * J).toNat = 8 * q by have := HJ.out; omega, byte_shift])
                        have HLO := Lib.hid (fun (X : World) (hX : SM W [g1, g2, g8] g s' g1 g2 (bytesM zs40 C) (setB (bytesM zs40 (D ++ O.take i)) AN d q) X) => (show (∃ v0, X.cell? ⟨g2, qa, none⟩ = some v0) ∧ X.frozen? ⟨g2, qa, none⟩ = false from ⟨⟨_, hX.cell2 hqlen⟩, hX.r2.free qa⟩))
                        have HST := Lib.hid (fun (X : World) (hX : SM W [g1, g2, g8] g s' g1 g2 (bytesM zs40 C) (setB (bytesM zs40 (D ++ O.take i)) AN d q) X ∧ X.ownsRow W.heap.size 34 4 (.slice (some ⟨g8, 0, none⟩) m c8) m (cellsW O)) => (show SM W [g1, g2, g8] g s' g1 g2 (bytesM zs40 C) (setB (bytesM zs40 (D ++ O.take i)) AN d (q + 1)) (X.setCell ⟨g2, qa, none⟩ (.int .u8 (d / 2 ^ (8 * J).toNat % 256))) ∧ (X.setCell ⟨g2, qa, none⟩ (.int .u8 (d / 2 ^ (8 * J).toNat % 256))).ownsRow W.heap.size 34 4 (.slice (some ⟨g8, 0, none⟩) m c8) m (cellsW O) from by
                          rw [HV.out]
                          refine ⟨?_, ?_⟩
                          · have := hX.1.set2 hqlen (byteAt d q)
                            rw [← hqa] at this ⊢
                            exact this
                          · exact ((Fr.refl [g2] X).setCell (.inl (by simp)) _).row hX.2 (fun k hk => by cases hk; simp; exact HN8.out.2)))
                        have HC1 := HCE.out
                        clear hqa
                        go_upto_region 32 with (fail)
                        clear e0 e1 e2 e3
                        have HS := Lib.hid (show _ ∧ _ from ⟨HSQ.out.on (Below.drew (Below.refl _ _)), HOQ.out.drew⟩)
                        clear HSQ HOQ
                        refine wp_region_P (S := fun X => SM W [g1, g2, g8] g s' g1 g2 (bytesM zs40 C) (setB (bytesM zs40 (D ++ O.take i)) AN d q) X ∧ X.ownsRow W.heap.size 34 4 (.slice (some ⟨g8, 0, none⟩) m c8) m (cellsW O)) (c := 19) (by kernel_rfl) ?_
                        change wpAnyP _ _ _ _ _ _ _ _ _ (World.drew _)
                        generalize World.drew _ = w9 at *
                        refine hp_val (i := 0) (oi := ⟨some 115, .move _, _, _, _, _⟩) [19] (.slice (some ⟨g2, 0, none⟩) 1040 1040) rfl (by kernel_rfl) (by kernel_rfl) (by kernel_rfl) (by kernel_rfl) (by kernel_rfl) rfl (fun _ _ _ h => h) (by kernel_rfl) (fun _ _ => rfl) HS.out ?_
                        simp only [Act.put, List.setIfInBounds_toArray, List.set_cons_zero, List.set_cons_succ]
                        refine hp_val (i := 1) (oi := ⟨some 116, .move _, _, _, _, _⟩) [19] (.slice (some ⟨g8, 0, none⟩) m c8) rfl (by kernel_rfl) (by kernel_rfl) (by kernel_rfl) (by kernel_rfl) (by kernel_rfl) rfl (fun _ _ _ h => h) (by kernel_rfl) (fun _ _ => rfl) HS.out ?_
                        simp only [Act.put, List.setIfInBounds_toArray, List.set_cons_zero, List.set_cons_succ]
                        refine hp_val (i := 2) (oi := ⟨some 117, .move _, _, _, _, _⟩) [19] (.int .i64 (i : Int)) rfl (by kernel_rfl) (by kernel_rfl) (by kernel_rfl) (by kernel_rfl) (by kernel_rfl) rfl (fun _ _ _ h => h) (by kernel_rfl) (fun _ _ => rfl) HS.out ?_
                        simp only [Act.put, List.setIfInBounds_toArray, List.set_cons_zero, List.set_cons_succ]
                        refine hp_val (i := 3) (oi := ⟨some 118, .indexAddr _ _ _, _, _, _, _⟩) [19] (.pointer (some ⟨g8, i * 4, none⟩)) rfl (by kernel_rfl) (by kernel_rfl) (by kernel_rfl) (by kernel_rfl) (by kernel_rfl) rfl (fun _ _ _ h => h) (by kernel_rfl) (fun _ _ => ex_index0 (z := 4) rfl rfl rfl rfl hlt Try.underlying39 (by kernel_rfl)) HS.out ?_
                        simp only [Act.put, List.setIfInBounds_toArray, List.set_cons_zero, List.set_cons_succ]
                        refine hp_val (i := 4) (oi := ⟨some 119, .fieldAddr _ _ _, _, _, _, _⟩) [19] (.pointer (some ⟨g8, i * 4 + 1, none⟩)) rfl (by kernel_rfl) (by kernel_rfl) (by kernel_rfl) (by kernel_rfl) (by kernel_rfl) rfl (fun _ _ _ h => h) (by kernel_rfl) (fun _ _ => by kernel_rfl) HS.out ?_
                        simp only [Act.put, List.setIfInBounds_toArray, List.set_cons_zero, List.set_cons_succ]
                        refine hp_val (i := 5) (oi := ⟨some 120, .load _ _, _, _, _, _⟩) [19] (.int .i64 a) rfl (by kernel_rfl) (by kernel_rfl) (by kernel_rfl) (by kernel_rfl) (by kernel_rfl) rfl (fun _ _ _ h => h) (by kernel_rfl) (fun X hX => ex_load rfl rfl (HC1 X hX.2).2.1 (by kernel_rfl)) HS.out ?_
                        simp only [Act.put, List.setIfInBounds_toArray, List.set_cons_zero, List.set_cons_succ]
                        refine hp_val (i := 6) (oi := ⟨some 121, .move _, _, _, _, _⟩) [19] (.int .i64 J) rfl (by kernel_rfl) (by kernel_rfl) (by kernel_rfl) (by kernel_rfl) (by kernel_rfl) rfl (fun _ _ _ h => h) (by kernel_rfl) (fun _ _ => rfl) HS.out ?_
                        simp only [Act.put, List.setIfInBounds_toArray, List.set_cons_zero, List.set_cons_succ]
                        refine hp_val (i := 7) (oi := ⟨some 122, .binOp _ _ _ _ _, _, _, _, _⟩) [19] (.int .i64 (a + J)) rfl (by kernel_rfl) (by kernel_rfl) (by kernel_rfl) (by kernel_rfl) (by kernel_rfl) rfl (fun _ _ _ h => h) (by kernel_rfl) (fun _ _ => ex_addI rfl rfl rfl (by omega)) HS.out ?_
                        simp only [Act.put, List.setIfInBounds_toArray, List.set_cons_zero, List.set_cons_succ]
                        refine hp_val (i := 8) (oi := ⟨some 123, .move _, _, _, _, _⟩) [19] (.slice (some ⟨g8, 0, none⟩) m c8) rfl (by kernel_rfl) (by kernel_rfl) (by kernel_rfl) (by kernel_rfl) (by kernel_rfl) rfl (fun _ _ _ h => h) (by kernel_rfl) (fun _ _ => rfl) HS.out ?_
                        simp only [Act.put, List.setIfInBounds_toArray, List.set_cons_zero, List.set_cons_succ]
                        refine hp_val (i := 9) (oi := ⟨some 124, .move _, _, _, _, _⟩) [19] (.int .i64 (i : Int)) rfl (by kernel_rfl) (by kernel_rfl) (by kernel_rfl) (by kernel_rfl) (by kernel_rfl) rfl (fun _ _ _ h => h) (by kernel_rfl) (fun _ _ => rfl) HS.out ?_
                        simp only [Act.put, List.setIfInBounds_toArray, List.set_cons_zero, List.set_cons_succ]
                        refine hp_val (i := 10) (oi := ⟨some 125, .indexAddr _ _ _, _, _, _, _⟩) [19] (.pointer (some ⟨g8, i * 4, none⟩)) rfl (by kernel_rfl) (by kernel_rfl) (by kernel_rfl) (by kernel_rfl) (by kernel_rfl) rfl (fun _ _ _ h => h) (by kernel_rfl) (fun _ _ => ex_index0 (z := 4) rfl rfl rfl rfl hlt Try.underlying39 (by kernel_rfl)) HS.out ?_
                        simp only [Act.put, List.setIfInBounds_toArray, List.set_cons_zero, List.set_cons_succ]
                        refine hp_val (i := 11) (oi := ⟨some 126, .fieldAddr _ _ _, _, _, _, _⟩) [19] (.pointer (some ⟨g8, i * 4 + 3, none⟩)) rfl (by kernel_rfl) (by kernel_rfl) (by kernel_rfl) (by kernel_rfl) (by kernel_rfl) rfl (fun _ _ _ h => h) (by kernel_rfl) (fun _ _ => by kernel_rfl) HS.out ?_
                        simp only [Act.put, List.setIfInBounds_toArray, List.set_cons_zero, List.set_cons_succ]
                        refine hp_val (i := 12) (oi := ⟨some 127, .load _ _, _, _, _, _⟩) [19] (.int .u64 d) rfl (by kernel_rfl) (by kernel_rfl) (by kernel_rfl) (by kernel_rfl) (by kernel_rfl) rfl (fun _ _ _ h => h) (by kernel_rfl) (fun X hX => ex_load rfl rfl (HC1 X hX.2).2.2.2 (by kernel_rfl)) HS.out ?_
                        simp only [Act.put, List.setIfInBounds_toArray, List.set_cons_zero, List.set_cons_succ]
                        refine hp_val (i := 13) (oi := ⟨some 128, .move _, _, _, _, _⟩) [19] (.int .i64 J) rfl (by kernel_rfl) (by kernel_rfl) (by kernel_rfl) (by kernel_rfl) (by kernel_rfl) rfl (fun _ _ _ h => h) (by kernel_rfl) (fun _ _ => rfl) HS.out ?_
                        simp only [Act.put, List.setIfInBounds_toArray, List.set_cons_zero, List.set_cons_succ]
                        refine hp_val (i := 14) (oi := ⟨some 129, .binOp _ _ _ _ _, _, _, _, _⟩) [19] (.int .i64 (8 * J)) rfl (by kernel_rfl) (by kernel_rfl) (by kernel_rfl) (by kernel_rfl) (by kernel_rfl) rfl (fun _ _ _ h => h) (by kernel_rfl) (fun _ _ => ex_mulI rfl rfl rfl (by omega)) HS.out ?_
                        simp only [Act.put, List.setIfInBounds_toArray, List.set_cons_zero, List.set_cons_succ]
                        refine hp_val (i := 15) (oi := ⟨some 130, .convert _ _ _, _, _, _, _⟩) [19] (.int .u64 (8 * J)) rfl (by kernel_rfl) (by kernel_rfl) (by kernel_rfl) (by kernel_rfl) (by kernel_rfl) rfl (fun _ _ _ h => h) (by kernel_rfl) (fun _ _ => ex_uint rfl rfl (by omega) (by omega) Try.underlying3 Try.underlying54) HS.out ?_
                        simp only [Act.put, List.setIfInBounds_toArray, List.set_cons_zero, List.set_cons_succ]
                        refine hp_val (i := 16) (oi := ⟨some 131, .binOp _ _ _ _ _, _, _, _, _⟩) [19] (.int .u64 (d / 2 ^ (8 * J).toNat)) rfl (by kernel_rfl) (by kernel_rfl) (by kernel_rfl) (by kernel_rfl) (by kernel_rfl) rfl (fun _ _ _ h => h) (by kernel_rfl) (fun _ _ => ex_shr rfl rfl rfl (by omega) (by omega)) HS.out ?_
                        simp only [Act.put, List.setIfInBounds_toArray, List.set_cons_zero, List.set_cons_succ]
                        refine hp_val (i := 17) (oi := ⟨some 132, .convert _ _ _, _, _, _, _⟩) [19] (.int .u8 (d / 2 ^ (8 * J).toNat % 256)) rfl (by kernel_rfl) (by kernel_rfl) (by kernel_rfl) (by kernel_rfl) (by kernel_rfl) rfl (fun _ _ _ h => h) (by kernel_rfl) (fun _ _ => ex_byte rfl rfl Try.underlying32 Try.underlying5) HS.out ?_
                        simp only [Act.put, List.setIfInBounds_toArray, List.set_cons_zero, List.set_cons_succ]
                        refine hp_val (i := 18) (oi := ⟨some 133, .indexAddr _ _ _, _, _, _, _⟩) [19] (.pointer (some ⟨g2, qa, none⟩)) rfl (by kernel_rfl) (by kernel_rfl) (by kernel_rfl) (by kernel_rfl) (by kernel_rfl) rfl (fun _ _ _ h => h) (by kernel_rfl) (fun _ _ => ex_index rfl rfl rfl hqaI hqa3 Try.underlying50 (by kernel_rfl)) HS.out ?_
                        simp only [Act.put, List.setIfInBounds_toArray, List.set_cons_zero, List.set_cons_succ]
                        refine hp_last (i := 19) (oi := ⟨none, .store _ _ _, _, _, _, _⟩) (by kernel_rfl) rfl (by kernel_rfl) (by kernel_rfl) ?_
                        obtain ⟨⟨v0, q4⟩, f4⟩ := HLO.out _ HS.out.1
                        refine wp_store_one (v := .int .u8 (d / 2 ^ (8 * J).toNat % 256)) rfl rfl rfl rfl q4 f4 (by kernel_rfl) rfl rfl ?_
                        have HX := Lib.hid (HST.out _ HS.out)
                        clear q4 f4 HS
                        generalize World.setCell _ _ _ = x9 at *
                        refine wpAnyH_done (by kernel_rfl) ?_ _
                        go_wp2
                        go_roundw
                        case rel => exact ⟨q + 1, J + 1, by omega, by go_num, Lib.hid (by have := HJ.out; push_cast; omega), by omega, by omega, Lib.hid HX.out.1, Lib.hid HX.out.2⟩
                        case measure => have := HJ.out; simp [intOf]; omega
                      · have hJz : ¬ J < z := by have := HJ.out; have := HZI.out; omega
                        have HQZ := Lib.hid (show q = Z by omega)
                        go_wp2
                        go_roundw
                        case rel => exact ⟨i + 1, by omega, by go_num, by rw [← HAL'.out, ← HQZ.out]; exact HSQ, HOQ⟩
                        case measure => simp [intOf]; omega
                  · obtain rfl : i = m := by omega
                    have hltI : ¬ (i : Int) < (i : Int) := by omega
                    have HTA := Lib.hid (show O.take i = O from List.take_of_length_le (by rw [HM.out]; exact Nat.le_refl _))
                    go_wp2
                    go_roundw
                    case rel => exact ⟨n + 1, D ++ O, s', hn4', by go_num, HDN1, by rw [← HTA.out]; exact HSI.out.sub (by simp) (by simp)⟩
                    case measure => simp [intOf]; omega
        · have hc1' : ¬ (k : Int) < (l.length : Int) := by omega
          obtain ⟨hok0, hmayC, hfbC⟩ := HF.out k hk1
          have HMC := Lib.hid hmayC
          have HFB := Lib.hid hfbC
          have HOK0 := Lib.hid hok0
          have hes4 := hok0.len
          clear hmayC hfbC hok0
          obtain ⟨s0, hs0⟩ : ∃ s, runA l k = s := ⟨_, rfl⟩
          obtain ⟨C, hC⟩ : ∃ C, accS l k = C := ⟨_, rfl⟩
          rw [hs0] at HSM HFB HOK0 hes4
          rw [hC] at HSM HMC HFB
          clear hs0 hC
          go_wp2
          go_loopw [11] (fun v wx => ∃ (n : Nat) (D : List Wr) (s : Bst), n ≤ 4 ∧ v = .int .i64 (n : Int) ∧ Hid (Dn s0 s D n) ∧ Hid (SM W [g1, g2] g s g1 g2 (bytesM zs40 C) (bytesM zs40 D) wx)) (fun v _ => 60 - (intOf v).toNat)
          case atStart => exact ⟨0, [], s0, by omega, rfl, Lib.hid (Dn.start HOK0.out), by rw [bytesM_nil]; exact HSM⟩
          case round =>
            obtain ⟨n, D, s, hn4, rfl, HDN, HSD⟩ := hrel
            clear HSM
            rename_i wk
            have hn60 : (n : Int) < 60 := by omega
            have HEM := Lib.hid (HSD.out.ox.empty)
            by_cases he : s.es.length = 0
            · rw [decide_eq_true he] at HEM
              have HEQ := Lib.hid (show bytesM zs40 C = bytesM zs40 D from by
                rw [← bytesM_low]
                refine bytesM_fb _ (fun x hx => ?_) (fun x hx => (HDN.out.may x hx).may) (fun β => ?_)
                · obtain ⟨y, hy, rfl⟩ := List.mem_map.1 hx
                  rw [mayW_low]
                  exact HMC.out y hy
                · rw [HFB.out, ← HDN.out.same, flat_nil he, List.append_nil])
              have HSA := Lib.hid (same_any (some ⟨g1, 0, none⟩) (some ⟨g2, 0, none⟩) 1040 1040 (bytesM zs40 C) (bytesM zs40 D) wr (by rw [bytesM_len, HZ.out]; decide) HSD.out.r1.rd HSD.out.r2.rd)
              rw [decide_eq_true HEQ.out, bytesM_len, bytesM_len, HZ.out] at HSA
              have HBW := Lib.hid HSD.out.ox.low
              go_wp2_with (first
                | (go_at_call 24; refine HEM.out.mono ?_; rintro e w7 ⟨rfl, rfl⟩)
                | (go_at_call 28; refine HSA.out.mono ?_; rintro e w8 ⟨rfl, hb8⟩))
              go_ret
              exact ⟨rfl, HBW.out.on hb8⟩
            · rw [decide_eq_false he] at HEM
              have HRE := Lib.hid (HSD.out.ox.ready)
              have hrl := rdy_some (s := s) (by omega)
              have hrl4 : (rdyI s s.es.length).length ≤ 4 := Nat.le_trans (rdyI_len _ _) HDN.out.ok.len
              have HMG := Lib.hid (fun q (hq : q ∈ rdyI s s.es.length) => (mayGo_iff s q).1 hq)
              obtain ⟨rd, hrd⟩ : ∃ rd, rdyI s s.es.length = rd := ⟨_, rfl⟩
              rw [hrd] at HRE hrl hrl4 HMG
              clear hrd
              obtain ⟨rl, hrle⟩ : ∃ rl, rd.length = rl := ⟨_, rfl⟩
              rw [hrle] at HRE hrl hrl4
              have HRL := Lib.hid hrle
              clear hrle
              have hr0 : ((rl : Int) == 0) = false := by simp; omega
              go_upto_if 85 with (first
                | (go_at_call 24; refine HEM.out.mono ?_; rintro e w7 ⟨rfl, rfl⟩)
                | (go_at_call 22; refine HRE.out.mono ?_; rintro e w7 ⟨v7, rfl, ho7, hb7⟩; obtain ⟨A7, c7, rfl⟩ := own_shape ho7; have HO7 := Lib.hid (Rd.of_own ho7); have HSD7 := Lib.hid (HSD.out.on hb7); clear ho7 hb7))
              have hrlI : (0 : Int) < (rl : Int) ∧ (rl : Int) ≤ 4 := by omega
              go_cut [13] from 82 to 93 (fun s13 wx => w7 = wx ∧ ∃ kk : Nat, s13 = .int .i64 (kk : Int) ∧ kk < rl)
              case first =>
                by_cases hn : n < ps.length
                · have hnI : (n : Int) < (ps.length : Int) := by omega
                  obtain ⟨bp, offp, hAp, hbp, hcp⟩ := HRP.out.at (i := n) (by unfold cellsB; rw [List.length_map]; exact hn)
                  subst hAp
                  simp only [cellsB, List.getElem_map] at hcp
                  have hcp' := (Below.cell HSD7.out.ox.low (p := ⟨bp, offp + n, none⟩) hbp).trans hcp
                  have hpv := HWP.out ps[n] (List.getElem_mem _)
                  generalize ps[n] = pv at *
                  have hpw : IntKind.i64.wrap pv = pv := by rw [IntKind.wrap_i64]; omega
                  have hmod : 0 ≤ pv % (rl : Int) ∧ pv % (rl : Int) < (rl : Int) := ⟨Int.emod_nonneg _ (by omega), Int.emod_lt_of_pos _ (by omega)⟩
                  have htm : pv.tmod (rl : Int) = pv % (rl : Int) := Int.tmod_eq_emod_of_nonneg hpv.1
                  have hmw : IntKind.i64.wrap (pv % (rl : Int)) = pv % (rl : Int) := by rw [IntKind.wrap_i64]; omega
                  go_wp2
                  go_meet
                  case rel =>
                    exact ⟨rfl, (pv % (rl : Int)).toNat, by rw [Int.toNat_of_nonneg hmod.1], by omega⟩
                · have hnI : ¬ (n : Int) < (ps.length : Int) := by omega
                  go_wp2
                  go_meet
                  case rel => exact ⟨rfl, 0, rfl, by omega⟩
              case rest =>
                obtain ⟨rfl, kk, rfl, hkk⟩ := hcut
                have hkkr : kk < rd.length := by rw [HRL.out]; exact hkk
                obtain ⟨b7, off7, hA7, hb7l, hc7⟩ := HO7.out.at (i := kk) (by unfold cellsI; rw [List.length_map]; exact hkkr)
                subst hA7
                simp only [cellsI, List.getElem_map] at hc7
                have hq := HMG.out rd[kk] (List.getElem_mem _)
                obtain ⟨q, hqe⟩ : ∃ q, rd[kk] = q := ⟨_, rfl⟩
                rw [hqe] at hc7 hq
                have hkkI : (0 : Int) ≤ (kk : Int) ∧ (kk : Int) < (rl : Int) := by omega
                clear hqe
                have HDR := Lib.hid (HSD7.out.ox.dra q)
                have hDn := HDN.out.step hq
                obtain ⟨O, hO⟩ : ∃ O, outB s q = O := ⟨_, rfl⟩
                obtain ⟨s', hs'⟩ : ∃ s', draB s q = s' := ⟨_, rfl⟩
                have hOk := out_ok HDN.out.ok (q := q)
                have hOn : 0 < O.length ∧ O.length ≤ 8 := by
                  rw [← hO]
                  unfold outB
                  rw [if_pos hq]
                  unfold mayGo at hq
                  simp only [Bool.and_eq_true, decide_eq_true_eq] at hq
                  have hk' : q.toNat < s.es.length := by omega
                  rw [getD_ent hk']
                  exact HDN.out.ok.some _ (List.getElem_mem _)
                obtain ⟨hOn, hO8⟩ := hOn
                rw [hO, hs'] at HDR hDn
                rw [hO] at hOk
                have HDN1 := Lib.hid hDn
                have HOK := Lib.hid hOk
                have hn4' : n + 1 ≤ 4 := by have := hDn.len; omega
                clear hDn hOk hq hO hs' HMG HRE HO7
                go_wp2_with (first
                  | (go_at_call 15; refine HDR.out.mono ?_; rintro e w8 ⟨⟨v8, rfl, ho8, hn8, hx8⟩, hs8⟩; obtain ⟨g8, c8, rfl, hg8, _⟩ := ho8.form hOn; have HO8 := Lib.hid ho8; have HS8 := Lib.hid (show SM W [g1, g2, g8] g s' g1 g2 (bytesM zs40 C) (bytesM zs40 D) w8 from ⟨hx8 [g1, g2, g8] (by intro r hr; simp at hr; rcases hr with rfl | rfl | rfl; exact .inl (by simp); exact .inl (by simp); exact .inr rfl), by simp, hs8.rowB HSD7.out.r1 (by simp), hs8.rowB HSD7.out.r2 (by simp), HSD7.out.ge, HSD7.out.ne⟩); have HN8 := Lib.hid (show g8 ≠ g1 ∧ g8 ≠ g2 from ⟨fun e => hn8 g8 rfl (by simp [e]), fun e => hn8 g8 rfl (by simp [e])⟩); have HG8 := Lib.hid hg8; clear ho8 hn8 hx8 hs8 hg8))
                obtain ⟨m, hm⟩ : ∃ m, O.length = m := ⟨_, rfl⟩
                rw [hm] at HO8 hOn hO8 ⊢
                have HM := Lib.hid hm
                clear hm HSD7 HSD HEM
                go_loopw [15] (fun v wx => ∃ i : Nat, i ≤ m ∧ v = .int .i64 (i : Int) ∧ Hid (SM W [g1, g2, g8] g s' g1 g2 (bytesM zs40 C) (bytesM zs40 (D ++ O.take i)) wx) ∧ Hid (wx.ownsRow W.heap.size 34 4 (.slice (some ⟨g8, 0, none⟩) m c8) m (cellsW O))) (fun v _ => m - (intOf v).toNat)
                case atStart => exact ⟨0, by omega, rfl, by rw [List.take_zero, List.append_nil]; exact HS8, HO8⟩
                case round =>
                  obtain ⟨i, him, rfl, HSI, HOI⟩ := hrel
                  clear HS8 HO8
                  rename_i wj
                  by_cases hlt : i < m
                  · have hltI : (i : Int) < (m : Int) := by omega
                    have hio : i < O.length := by rw [HM.out]; exact hlt
                    have hox := HOK.out O[i] (List.getElem_mem _)
                    have HTK := Lib.hid (show O.take (i + 1) = O.take i ++ [O[i]] from List.take_succ_eq_append_getElem hio)
                    have HCE := Lib.hid (fun (X : World) (hX : X.ownsRow W.heap.size 34 4 (.slice (some ⟨g8, 0, none⟩) m c8) m (cellsW O)) => own_cell hX hio)
                    obtain ⟨⟨xi, a, z, d⟩, hx⟩ : ∃ x, O[i] = x := ⟨_, rfl⟩
                    rw [hx] at hox HTK HCE
                    dsimp only at HCE
                    obtain ⟨_, hz, ha0, _, ha1⟩ := mayW_out hox.may
                    dsimp only at hz ha0 ha1
                    clear hx hio
                    obtain ⟨AN, hAN⟩ : ∃ AN : Nat, a = (AN : Int) := ⟨a.toNat, by omega⟩
                    obtain ⟨Z, hZ⟩ : ∃ Z : Nat, z = (Z : Int) := ⟨z.toNat, by omega⟩
                    have hZ8 : 1 ≤ Z ∧ Z ≤ 8 := by omega
                    have hA1 : AN ≤ 1024 := by omega
                    have HAL' := Lib.hid (show setB (bytesM zs40 (D ++ O.take i)) AN d Z = bytesM zs40 (D ++ O.take (i + 1)) from by
                      rw [HTK.out, ← List.append_assoc]
                      exact setB_all zs40 (D ++ O.take i) ⟨xi, a, z, d⟩ hAN hZ (by rw [HZ.out]; omega))
                    have HLB := Lib.hid (fun q => (setB_len (bytesM zs40 (D ++ O.take i)) AN d q).trans ((bytesM_len zs40 (D ++ O.take i)).trans HZ.out))
                    have HZI := Lib.hid hZ
                    have HAI := Lib.hid hAN
                    have hzI : 1 ≤ z ∧ z ≤ 8 := by omega
                    have haI : 0 ≤ a ∧ a ≤ 1024 := by omega
                    clear hz hZ hAN ha0 ha1 hox
                    go_wp2
                    go_loopw [16] (fun v wy => ∃ (q : Nat) (J : Int), q ≤ Z ∧ v = .int .i64 J ∧ Hid (J = q) ∧ 0 ≤ J ∧ J ≤ 8 ∧ Hid (SM W [g1, g2, g8] g s' g1 g2 (bytesM zs40 C) (setB (bytesM zs40 (D ++ O.take i)) AN d q) wy) ∧ Hid (wy.ownsRow W.heap.size 34 4 (.slice (some ⟨g8, 0, none⟩) m c8) m (cellsW O))) (fun v _ => Z - (intOf v).toNat)
                    case atStart => exact ⟨0, 0, by omega, rfl, Lib.hid rfl, by omega, by omega, HSI, HOI⟩
                    case round =>
                      obtain ⟨q, J, hq, rfl, HJ, hJ0, hJ8, HSQ, HOQ⟩ := hrel
                      clear HSI HOI
                      obtain ⟨e0, e1, e2, e3⟩ := HCE.out _ HOQ.out
                      by_cases hlq : q < Z
                      · have hJz : J < z := by have := HJ.out; have := HZI.out; omega
                        have hJ7 : J < 8 := by omega
                        obtain ⟨qa, hqa⟩ : ∃ qa, AN + q = qa := ⟨_, rfl⟩
                        have hqaI : a + J = (qa : Int) := by have := HJ.out; have := HAI.out; omega
                        have hqa3 : qa < 1040 := by omega
                        have hqlen : qa < (setB (bytesM zs40 (D ++ O.take i)) AN d q).length := by rw [HLB.out]; exact hqa3
                        have HV := Lib.hid (show d / 2 ^ (8 * J).toNat % 256 = byteAt d q by rw [show (8 * J).toNat = 8 * q by have := HJ.out; omega, byte_shift])
                        have HLO := Lib.hid (fun (X : World) (hX : SM W [g1, g2, g8] g s' g1 g2 (bytesM zs40 C) (setB (bytesM zs40 (D ++ O.take i)) AN d q) X) => (show (∃ v0, X.cell? ⟨g2, qa, none⟩ = some v0) ∧ X.frozen? ⟨g2, qa, none⟩ = false from ⟨⟨_, hX.cell2 hqlen⟩, hX.r2.free qa⟩))
                        have HST := Lib.hid (fun (X : World) (hX : SM W [g1, g2, g8] g s' g1 g2 (bytesM zs40 C) (setB (bytesM zs40 (D ++ O.take i)) AN d q) X ∧ X.ownsRow W.heap.size 34 4 (.slice (some ⟨g8, 0, none⟩) m c8) m (cellsW O)) => (show SM W [g1, g2, g8] g s' g1 g2 (bytesM zs40 C) (setB (bytesM zs40 (D ++ O.take i)) AN d (q + 1)) (X.setCell ⟨g2, qa, none⟩ (.int .u8 (d / 2 ^ (8 * J).toNat % 256))) ∧ (X.setCell ⟨g2, qa, none⟩ (.int .u8 (d / 2 ^ (8 * J).toNat % 256))).ownsRow W.heap.size 34 4 (.slice (some ⟨g8, 0, none⟩) m c8) m (cellsW O) from by
                          rw [HV.out]
                          refine ⟨?_, ?_⟩
                          · have := hX.1.set2 hqlen (byteAt d q)
                            rw [← hqa] at this ⊢
                            exact this
                          · exact ((Fr.refl [g2] X).setCell (.inl (by simp)) _).row hX.2 (fun k hk => by cases hk; simp; exact HN8.out.2)))
                        have HC1 := HCE.out
                        clear hqa
                        go_upto_region 32 with (fail)
                        clear e0 e1 e2 e3
                        have HS := Lib.hid (show _ ∧ _ from ⟨HSQ.out.on (Below.drew (Below.refl _ _)), HOQ.out.drew⟩)
                        clear HSQ HOQ
                        refine wp_region_P (S := fun X => SM W [g1, g2, g8] g s' g1 g2 (bytesM zs40 C) (setB (bytesM zs40 (D ++ O.take i)) AN d q) X ∧ X.ownsRow W.heap.size 34 4 (.slice (some ⟨g8, 0, none⟩) m c8) m (cellsW O)) (c := 19) (by kernel_rfl) ?_
                        change wpAnyP _ _ _ _ _ _ _ _ _ (World.drew _)
                        generalize World.drew _ = w9 at *
                        refine hp_val (i := 0) (oi := ⟨some 115, .move _, _, _, _, _⟩) [19] (.slice (some ⟨g2, 0, none⟩) 1040 1040) rfl (by kernel_rfl) (by kernel_rfl) (by kernel_rfl) (by kernel_rfl) (by kernel_rfl) rfl (fun _ _ _ h => h) (by kernel_rfl) (fun _ _ => rfl) HS.out ?_
                        simp only [Act.put, List.setIfInBounds_toArray, List.set_cons_zero, List.set_cons_succ]
                        refine hp_val (i := 1) (oi := ⟨some 116, .move _, _, _, _, _⟩) [19] (.slice (some ⟨g8, 0, none⟩) m c8) rfl (by kernel_rfl) (by kernel_rfl) (by kernel_rfl) (by kernel_rfl) (by kernel_rfl) rfl (fun _ _ _ h => h) (by kernel_rfl) (fun _ _ => rfl) HS.out ?_
                        simp only [Act.put, List.setIfInBounds_toArray, List.set_cons_zero, List.set_cons_succ]
                        refine hp_val (i := 2) (oi := ⟨some 117, .move _, _, _, _, _⟩) [19] (.int .i64 (i : Int)) rfl (by kernel_rfl) (by kernel_rfl) (by kernel_rfl) (by kernel_rfl) (by kernel_rfl) rfl (fun _ _ _ h => h) (by kernel_rfl) (fun _ _ => rfl) HS.out ?_
                        simp only [Act.put, List.setIfInBounds_toArray, List.set_cons_zero, List.set_cons_succ]
                        refine hp_val (i := 3) (oi := ⟨some 118, .indexAddr _ _ _, _, _, _, _⟩) [19] (.pointer (some ⟨g8, i * 4, none⟩)) rfl (by kernel_rfl) (by kernel_rfl) (by kernel_rfl) (by kernel_rfl) (by kernel_rfl) rfl (fun _ _ _ h => h) (by kernel_rfl) (fun _ _ => ex_index0 (z := 4) rfl rfl rfl rfl hlt Try.underlying39 (by kernel_rfl)) HS.out ?_
                        simp only [Act.put, List.setIfInBounds_toArray, List.set_cons_zero, List.set_cons_succ]
                        refine hp_val (i := 4) (oi := ⟨some 119, .fieldAddr _ _ _, _, _, _, _⟩) [19] (.pointer (some ⟨g8, i * 4 + 1, none⟩)) rfl (by kernel_rfl) (by kernel_rfl) (by kernel_rfl) (by kernel_rfl) (by kernel_rfl) rfl (fun _ _ _ h => h) (by kernel_rfl) (fun _ _ => by kernel_rfl) HS.out ?_
                        simp only [Act.put, List.setIfInBounds_toArray, List.set_cons_zero, List.set_cons_succ]
                        refine hp_val (i := 5) (oi := ⟨some 120, .load _ _, _, _, _, _⟩) [19] (.int .i64 a) rfl (by kernel_rfl) (by kernel_rfl) (by kernel_rfl) (by kernel_rfl) (by kernel_rfl) rfl (fun _ _ _ h => h) (by kernel_rfl) (fun X hX => ex_load rfl rfl (HC1 X hX.2).2.1 (by kernel_rfl)) HS.out ?_
                        simp only [Act.put, List.setIfInBounds_toArray, List.set_cons_zero, List.set_cons_succ]
                        refine hp_val (i := 6) (oi := ⟨some 121, .move _, _, _, _, _⟩) [19] (.int .i64 J) rfl (by kernel_rfl) (by kernel_rfl) (by kernel_rfl) (by kernel_rfl) (by kernel_rfl) rfl (fun _ _ _ h => h) (by kernel_rfl) (fun _ _ => rfl) HS.out ?_
                        simp only [Act.put, List.setIfInBounds_toArray, List.set_cons_zero, List.set_cons_succ]
                        refine hp_val (i := 7) (oi := ⟨some 122, .binOp _ _ _ _ _, _, _, _, _⟩) [19] (.int .i64 (a + J)) rfl (by kernel_rfl) (by kernel_rfl) (by kernel_rfl) (by kernel_rfl) (by kernel_rfl) rfl (fun _ _ _ h => h) (by kernel_rfl) (fun _ _ => ex_addI rfl rfl rfl (by omega)) HS.out ?_
                        simp only [Act.put, List.setIfInBounds_toArray, List.set_cons_zero, List.set_cons_succ]
                        refine hp_val (i := 8) (oi := ⟨some 123, .move _, _, _, _, _⟩) [19] (.slice (some ⟨g8, 0, none⟩) m c8) rfl (by kernel_rfl) (by kernel_rfl) (by kernel_rfl) (by kernel_rfl) (by kernel_rfl) rfl (fun _ _ _ h => h) (by kernel_rfl) (fun _ _ => rfl) HS.out ?_
                        simp only [Act.put, List.setIfInBounds_toArray, List.set_cons_zero, List.set_cons_succ]
                        refine hp_val (i := 9) (oi := ⟨some 124, .move _, _, _, _, _⟩) [19] (.int .i64 (i : Int)) rfl (by kernel_rfl) (by kernel_rfl) (by kernel_rfl) (by kernel_rfl) (by kernel_rfl) rfl (fun _ _ _ h => h) (by kernel_rfl) (fun _ _ => rfl) HS.out ?_
                        simp only [Act.put, List.setIfInBounds_toArray, List.set_cons_zero, List.set_cons_succ]
                        refine hp_val (i := 10) (oi := ⟨some 125, .indexAddr _ _ _, _, _, _, _⟩) [19] (.pointer (some ⟨g8, i * 4, none⟩)) rfl (by kernel_rfl) (by kernel_rfl) (by kernel_rfl) (by kernel_rfl) (by kernel_rfl) rfl (fun _ _ _ h => h) (by kernel_rfl) (fun _ _ => ex_index0 (z := 4) rfl rfl rfl rfl hlt Try.underlying39 (by kernel_rfl)) HS.out ?_
                        simp only [Act.put, List.setIfInBounds_toArray, List.set_cons_zero, List.set_cons_succ]
                        refine hp_val (i := 11) (oi := ⟨some 126, .fieldAddr _ _ _, _, _, _, _⟩) [19] (.pointer (some ⟨g8, i * 4 + 3, none⟩)) rfl (by kernel_rfl) (by kernel_rfl) (by kernel_rfl) (by kernel_rfl) (by kernel_rfl) rfl (fun _ _ _ h => h) (by kernel_rfl) (fun _ _ => by kernel_rfl) HS.out ?_
                        simp only [Act.put, List.setIfInBounds_toArray, List.set_cons_zero, List.set_cons_succ]
                        refine hp_val (i := 12) (oi := ⟨some 127, .load _ _, _, _, _, _⟩) [19] (.int .u64 d) rfl (by kernel_rfl) (by kernel_rfl) (by kernel_rfl) (by kernel_rfl) (by kernel_rfl) rfl (fun _ _ _ h => h) (by kernel_rfl) (fun X hX => ex_load rfl rfl (HC1 X hX.2).2.2.2 (by kernel_rfl)) HS.out ?_
                        simp only [Act.put, List.setIfInBounds_toArray, List.set_cons_zero, List.set_cons_succ]
                        refine hp_val (i := 13) (oi := ⟨some 128, .move _, _, _, _, _⟩) [19] (.int .i64 J) rfl (by kernel_rfl) (by kernel_rfl) (by kernel_rfl) (by kernel_rfl) (by kernel_rfl) rfl (fun _ _ _ h => h) (by kernel_rfl) (fun _ _ => rfl) HS.out ?_
                        simp only [Act.put, List.setIfInBounds_toArray, List.set_cons_zero, List.set_cons_succ]
                        refine hp_val (i := 14) (oi := ⟨some 129, .binOp _ _ _ _ _, _, _, _, _⟩) [19] (.int .i64 (8 * J)) rfl (by kernel_rfl) (by kernel_rfl) (by kernel_rfl) (by kernel_rfl) (by kernel_rfl) rfl (fun _ _ _ h => h) (by kernel_rfl) (fun _ _ => ex_mulI rfl rfl rfl (by omega)) HS.out ?_
                        simp only [Act.put, List.setIfInBounds_toArray, List.set_cons_zero, List.set_cons_succ]
                        refine hp_val (i := 15) (oi := ⟨some 130, .convert _ _ _, _, _, _, _⟩) [19] (.int .u64 (8 * J)) rfl (by kernel_rfl) (by kernel_rfl) (by kernel_rfl) (by kernel_rfl) (by kernel_rfl) rfl (fun _ _ _ h => h) (by kernel_rfl) (fun _ _ => ex_uint rfl rfl (by omega) (by omega) Try.underlying3 Try.underlying54) HS.out ?_
                        simp only [Act.put, List.setIfInBounds_toArray, List.set_cons_zero, List.set_cons_succ]
                        refine hp_val (i := 16) (oi := ⟨some 131, .binOp _ _ _ _ _, _, _, _, _⟩) [19] (.int .u64 (d / 2 ^ (8 * J).toNat)) rfl (by kernel_rfl) (by kernel_rfl) (by kernel_rfl) (by kernel_rfl) (by kernel_rfl) rfl (fun _ _ _ h => h) (by kernel_rfl) (fun _ _ => ex_shr rfl rfl rfl (by omega) (by omega)) HS.out ?_
                        simp only [Act.put, List.setIfInBounds_toArray, List.set_cons_zero, List.set_cons_succ]
                        refine hp_val (i := 17) (oi := ⟨some 132, .convert _ _ _, _, _, _, _⟩) [19] (.int .u8 (d / 2 ^ (8 * J).toNat % 256)) rfl (by kernel_rfl) (by kernel_rfl) (by kernel_rfl) (by kernel_rfl) (by kernel_rfl) rfl (fun _ _ _ h => h) (by kernel_rfl) (fun _ _ => ex_byte rfl rfl Try.underlying32 Try.underlying5) HS.out ?_
                        simp only [Act.put, List.setIfInBounds_toArray, List.set_cons_zero, List.set_cons_succ]
                        refine hp_val (i := 18) (oi := ⟨some 133, .indexAddr _ _ _, _, _, _, _⟩) [19] (.pointer (some ⟨g2, qa, none⟩)) rfl (by kernel_rfl) (by kernel_rfl) (by kernel_rfl) (by kernel_rfl) (by kernel_rfl) rfl (fun _ _ _ h => h) (by kernel_rfl) (fun _ _ => ex_index rfl rfl rfl hqaI hqa3 Try.underlying50 (by kernel_rfl)) HS.out ?_
                        simp only [Act.put, List.setIfInBounds_toArray, List.set_cons_zero, List.set_cons_succ]
                        refine hp_last (i := 19) (oi := ⟨none, .store _ _ _, _, _, _, _⟩) (by kernel_rfl) rfl (by kernel_rfl) (by kernel_rfl) ?_
                        obtain ⟨⟨v0, q4⟩, f4⟩ := HLO.out _ HS.out.1
                        refine wp_store_one (v := .int .u8 (d / 2 ^ (8 * J).toNat % 256)) rfl rfl rfl rfl q4 f4 (by kernel_rfl) rfl rfl ?_
                        have HX := Lib.hid (HST.out _ HS.out)
                        clear q4 f4 HS
                        generalize World.setCell _ _ _ = x9 at *
                        refine wpAnyH_done (by kernel_rfl) ?_ _
                        go_wp2
                        go_roundw
                        case rel => exact ⟨q + 1, J + 1, by omega, by go_num, Lib.hid (by have := HJ.out; push_cast; omega), by omega, by omega, Lib.hid HX.out.1, Lib.hid HX.out.2⟩
                        case measure => have := HJ.out; simp [intOf]; omega
                      · have hJz : ¬ J < z := by have := HJ.out; have := HZI.out; omega
                        have HQZ := Lib.hid (show q = Z by omega)
                        go_wp2
                        go_roundw
                        case rel => exact ⟨i + 1, by omega, by go_num, by rw [← HAL'.out, ← HQZ.out]; exact HSQ, HOQ⟩
                        case measure => simp [intOf]; omega
                  · obtain rfl : i = m := by omega
                    have hltI : ¬ (i : Int) < (i : Int) := by omega
                    have HTA := Lib.hid (show O.take i = O from List.take_of_length_le (by rw [HM.out]; exact Nat.le_refl _))
                    go_wp2
                    go_roundw
                    case rel => exact ⟨n + 1, D ++ O, s', hn4', by go_num, HDN1, by rw [← HTA.out]; exact HSI.out.sub (by simp) (by simp)⟩
                    case measure => simp [intOf]; omega
theorem sbufSame_law (A : Option Addr) (cap : Nat) (l : List At) (B : Option Addr) (bap : Nat) (ps : List Int) (W : World) (hl : l.length ≤ cap) (hcap : cap ≤ 9223372036854775807) (hA : A = none → cap = 0 ∧ l = []) (hw : Wats l) (hr : Rd W W.heap.size A (cellsA l))
    (hl1 : ps.length ≤ bap) (hbap : bap ≤ 9223372036854775807) (hB : B = none → bap = 0 ∧ ps = []) (hwp : ∀ z ∈ ps, (Lit.int .u8 z).wf = true) (hrp : Rd W W.heap.size B (ps.map (Value.int .u8))) :
    Calls Try.prog 7 #[.slice A l.length cap, .slice B ps.length bap] W fun e w' => e = .returned (.bool true) ∧ Below W.heap.size W w' :=
  same_walk A cap l B bap ps W (by omega) (by omega) hw (fun z hz => wf_u8_out (hwp z hz)) hr hrp
end Go.Proofs.Ythifeaolodmhhaa
