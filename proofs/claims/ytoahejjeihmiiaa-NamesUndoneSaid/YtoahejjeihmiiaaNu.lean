/- Package names: Look. -/
import Derived.Test.YtoahejjeihmiiaaNt
set_option maxRecDepth 100000
set_option linter.unusedVariables false
namespace Go.Proofs.Ytoahejjeihmiiaa
open Go.RowKit Go.Shelf

attribute [local go_sem] Oper.semAt_some

set_option maxHeartbeats 8000000 in
theorem look_core (g L cap : Nat) (A : Option Addr) (rg cl : Nat → Int) (r : Nat) (sr : Int) (w : World) (hL : L ≤ 1000) (hr : r < 32) (hg : g < w.heap.size)
    (hq : ∀ X, BW w X → X.cell? ⟨g, 120, none⟩ = some (.slice A L cap) ∧ X.cell? ⟨g, 88 + r, none⟩ = some (.int .i64 sr))
    (hA : 0 < L → ∃ b off, A = some ⟨b, off, none⟩ ∧ b < w.heap.size ∧ ∀ j, j < L → w.cell? ⟨b, off + j * 2, none⟩ = some (.int .i64 (rg j)) ∧ w.cell? ⟨b, off + j * 2 + 1, none⟩ = some (.int .i64 (cl j))) :
    Calls Try.prog 19 #[.pointer (some ⟨g, 0, none⟩), .int .i64 (r : Int)] w fun e w' => (∃ c, e = .returned (.int .i64 c) ∧ ((c = sr ∧ ∀ j, j < L → rg j ≠ (r : Int)) ∨ ∃ j, j < L ∧ c = cl j ∧ rg j = (r : Int) ∧ ∀ i, j < i → i < L → rg i ≠ (r : Int))) ∧ BW w w' := by
  refine (callsIn_wide (n := 9)).1 ?_
  refine callsIn_of_wp_marks Try.func19 rfl trivial ?_ rfl
  simp only [Try.ntmps19, List.size_toArray, List.length_cons, List.length_nil, Nat.reduceAdd, Nat.reduceSub, Array.replicate_succ, Array.replicate_zero, List.push_toArray, List.append_toArray, List.nil_append, List.cons_append]
  have d1 : decide ((r : Int) < 0) = false := decide_eq_false (by omega)
  have d2 : decide ((32 : Int) ≤ (r : Int)) = false := decide_eq_false (by omega)
  have HQ := Lib.hid hq
  have h1 : BW w (w.alloc (.cells #[.int .i64 (r : Int)] 3)) := BW.new (Below.refl _ _) _
  have h2 := BW.on h1 (BW.new (Below.refl _ _) (.cells #[.int .i64 0] 3))
  have q0 := (hq _ h2).1
  clear h1 h2 hq
  gi_wp2_with (first
    | (refine ⟨trivial, ?_⟩; gi_at_call 29; refine (backWC_in Fence.wide _ trivial rfl _ _ _ _).mono ?_; rintro e w' ⟨rfl, rfl⟩))
  clear q0
  obtain ⟨n0, hn0⟩ : ∃ n0, w.heap.size = n0 := ⟨_, rfl⟩
  obtain ⟨b1, hb1⟩ : ∃ b, n0 + 1 = b := ⟨_, rfl⟩
  obtain ⟨b2, hb2⟩ : ∃ b, b1 + 1 = b := ⟨_, rfl⟩
  rw [hn0, hb1, hb2]
  rw [hn0] at hg
  obtain ⟨W0, hW0⟩ : ∃ W0, (((w.alloc (Obj.cells #[Value.int IntKind.i64 (r : Int)] 3)).alloc (Obj.cells #[Value.int IntKind.i64 0] 3)).alloc (Obj.cells #[Value.slice A L cap] 56)) = W0 := ⟨_, rfl⟩
  rw [hW0]
  have hsz : W0.heap.size = b2 + 1 := by rw [← hW0]; simp only [World.size_alloc]; omega
  have hbw : Below n0 w W0 := by
    rw [← hW0, ← hn0]
    exact (((Below.refl _ w).alloc (by omega) _).alloc (by simp only [World.size_alloc]; omega) _).alloc (by simp only [World.size_alloc]; omega) _
  have k0 : Blk #[.int .i64 (r : Int)] 3 n0 W0 := by
    rw [← hW0, ← hn0]; exact ((Blk.new _ _ w).alloc _).alloc _
  have k1 : Blk #[.int .i64 0] 3 b1 W0 := by
    rw [← hW0]
    have := (Blk.new #[.int .i64 0] 3 (w.alloc (Obj.cells #[.int .i64 (r : Int)] 3))).alloc (Obj.cells #[Value.slice A L cap] 56)
    simp only [World.size_alloc, hn0, hb1] at this
    exact this
  have k2 : Blk #[.slice A L cap] 56 b2 W0 := by
    rw [← hW0]
    have := Blk.new #[.slice A L cap] 56 ((w.alloc (Obj.cells #[.int .i64 (r : Int)] 3)).alloc (Obj.cells #[Value.int IntKind.i64 0] 3))
    simp only [World.size_alloc, hn0, hb1, hb2] at this
    exact this
  clear hW0
  have hA0 : 0 < L → ∃ b off, A = some ⟨b, off, none⟩ ∧ b < W0.heap.size ∧ ∀ j, j < L → W0.cell? ⟨b, off + j * 2, none⟩ = some (.int .i64 (rg j)) ∧ W0.cell? ⟨b, off + j * 2 + 1, none⟩ = some (.int .i64 (cl j)) := fun h => by
    obtain ⟨b, off, e1, e2, e3⟩ := hA h
    exact ⟨b, off, e1, by omega, fun j hj => ⟨(hbw.cell (p := ⟨b, off + j * 2, none⟩) (by show b < _; omega)).trans (e3 j hj).1, (hbw.cell (p := ⟨b, off + j * 2 + 1, none⟩) (by show b < _; omega)).trans (e3 j hj).2⟩⟩
  refine wpIn_rangeFunc_ownH (F := Fence.wide) rfl (by omega) (gf := 31) (lb := #[.pointer (some ⟨b2, 0, none⟩)]) rfl trivial (enters_of Try.func31 (by kernel_rfl) rfl)
    (backC_stops Fence.wide 8 trivial rfl (by omega) b2 cap L A rg cl (by omega) W0 (k2.cell 0) (by omega) hA0) belowK_t (belowK_b (Nat.le_refl _)) (Below.refl _ _) (fun _ => rfl)
    (fun pre W => (∀ i ∈ pre, rg i.1 ≠ (r : Int)) ∧ Below W0.heap.size W0 W)
    (fun c pre W => c = .ret ∧ ∃ pre' x, pre = pre' ++ [x] ∧ (∀ i ∈ pre', rg i.1 ≠ (r : Int)) ∧ rg x.1 = (r : Int) ∧ Blk #[.int .i64 (cl x.1)] 3 b1 W ∧ Below n0 w W)
    (OwnFrom.and (ownFrom_pure _ _) (ownFrom_below (Nat.le_refl _) (Nat.le_refl _)))
    (fun c s X Y row hs hg hr => by
      obtain ⟨e1, p', x, e2, e3, e4, e5, e6⟩ := hs
      exact ⟨e1, p', x, e2, e3, e4, e5.own hg hr, e6.grown hg (by have := e6.size; omega) (fun r e => by have := (hr r e).1; omega)⟩)
    ⟨by simp, Below.refl _ _⟩
    (fun x a' W => ∃ Be, W0.heap.size ≤ Be ∧ Blk #[.int .i64 (rg x.1), .int .i64 (cl x.1)] 61 Be W ∧ a' = { tmps := #[.pointer (some ⟨g, 0, none⟩), .int .i64 (r : Int), undef, .pointer (some ⟨n0, 0, none⟩), .pointer (some ⟨b1, 0, none⟩), undef, .pointer (some ⟨Be, 0, none⟩), .pointer (some ⟨g, 0, none⟩), .bool false, .bool false, .int .i64 (r : Int), .bool false, .bool false, .bool false, .int .i64 (r : Int), .bool false, .bool false, .pointer (some ⟨g, 0, none⟩), .pointer (some ⟨g, 0, none⟩), .pointer (some ⟨g, 120, none⟩), .slice A L cap, .func (.func 31) #[] #[.pointer (some ⟨b2, 0, none⟩)], .int .i64 ((x.1 : Nat) : Int), .agg #[.int .i64 (rg x.1), .int .i64 (cl x.1)], undef, undef, undef, undef, undef, undef, undef, undef, undef, undef, undef, undef], defers := [] })
    (fun x a' _ X Y row hs hg hr => by obtain ⟨Be, e1, e2, e3⟩ := hs; exact ⟨Be, e1, e2.own hg hr, e3⟩)
    ?assign ?body ?done ?stop
  case assign =>
    rintro l pre x W K ⟨hp, hB1⟩ hK
    have hs1 := hB1.size
    gi_wp2
    exact hK _ _ ((KeepsOthers.alloc _ _).from _) ((Below.refl _ W).alloc hs1 _) ⟨hp, hB1.alloc hs1 _⟩ ⟨W.heap.size, hs1, Blk.new _ _ _, rfl⟩
  case body =>
    rintro l pre x a' W hl ⟨rr, hrr⟩ ⟨hp, hB1⟩ ⟨Be, hBe, bE, rfl⟩ hlt
    have hs1 := hB1.size
    have hW : Below n0 w W := hbw.trans (hB1.mono (by omega))
    have c0 : W.cell? ⟨Be, 0, none⟩ = some (.int .i64 (rg x.1)) := bE.cell 0
    have c1 : W.cell? ⟨Be, 1, none⟩ = some (.int .i64 (cl x.1)) := bE.cell 1
    have cr : W.cell? ⟨n0, 0, none⟩ = some (.int .i64 (r : Int)) := (k0.within hB1 (by omega)).cell 0
    have kr := k1.within hB1 (by omega)
    have cz : W.cell? ⟨b1, 0, none⟩ = some (.int .i64 0) := kr.cell 0
    have fz := kr.free 0
    by_cases hx : rg x.1 = (r : Int)
    · have HX := Lib.hid hx
      have ex : (rg x.1 == (r : Int)) = true := by simpa using hx
      clear hx
      have kw := kr.set 0 (.int .i64 (cl x.1))
      have hlow : Below n0 w (W.setCell ⟨b1, 0, none⟩ (.int .i64 (cl x.1))) := hW.setCell (p := ⟨b1, 0, none⟩) (by show n0 ≤ b1; omega) _
      gi_wp2
      exact ⟨(KeepsOthers.setCell _ _ _).from _, rfl, pre, x, rfl, hp, HX.out, kw, hlow⟩
    · have HX := Lib.hid hx
      have ex : (rg x.1 == (r : Int)) = false := by simpa using hx
      clear hx
      gi_wp2
      exact ⟨keepsFrom_low (Below.refl W.heap.size W) (Nat.le_refl _), Below.refl _ _, ⟨fun i hi => (List.mem_append.1 hi).elim (hp i) (fun e => by simp at e; subst e; exact HX.out), hB1⟩⟩
  case done =>
    rintro D ys W hD rfl ⟨hp, hB1⟩ hK
    have hW : Below n0 w W := hbw.trans (hB1.mono (by omega))
    have kr := k1.within hB1 (by omega)
    have cz : W.cell? ⟨b1, 0, none⟩ = some (.int .i64 0) := kr.cell 0
    have fz := kr.free 0
    have cr : W.cell? ⟨n0, 0, none⟩ = some (.int .i64 (r : Int)) := (k0.within hB1 (by omega)).cell 0
    have cs := (HQ.out W (by unfold BW; rw [hn0]; exact hW)).2
    have hrI : (0 : Int) ≤ (r : Int) ∧ (r : Int) < 32 := by omega
    have hne : g ≠ b1 := by omega
    gi_wp2
    gi_region
    all_goals gi_wp2
    all_goals have hK' : (World.drew (W.setCell ⟨b1, 0, none⟩ (.int .i64 sr))).heap[D]? = _ := ((KeepsOthers.setCell W ⟨b1, 0, none⟩ (.int .i64 sr)).trans (KeepsOthers.drew _)).same D _ hK rfl
    all_goals refine ⟨by simp, .inl ⟨_, _, rfl, run_takeDeferred hK', ?_⟩⟩
    all_goals refine ⟨.int .i64 sr, results_cell1 rfl rfl (run_loadVar_int Try.underlying3 (((kr.set 0 (.int .i64 sr)).drew.put hK' rfl).cell 0)), ⟨sr, rfl, .inl ⟨rfl, fun j hj => hp ⟨j, hj⟩ (revF_all _)⟩⟩, ?_⟩
    all_goals exact (show Below w.heap.size w _ from hn0.symm ▸ (hW.setCell (p := ⟨b1, 0, none⟩) (by show n0 ≤ b1; omega) _).drew).trans (belowK_b (w := w) (Nat.le_refl _) _ D _ _ (by omega) hK' rfl rfl)
  case stop =>
    rintro D c pre W hD hpre ⟨rfl, pre', x, rfl, hp, hx, kw, hlow⟩ hK
    gi_wp2
    refine ⟨by simp, .inl ⟨_, _, rfl, run_takeDeferred hK, ?_⟩⟩
    refine ⟨.int .i64 (cl x.1), results_cell1 rfl rfl (run_loadVar_int Try.underlying3 ((kw.put hK rfl).cell 0)), ⟨cl x.1, rfl, .inr ⟨x.1, x.2, rfl, hx, fun i h1 h2 => hp ⟨i, h2⟩ (revF_pre hpre h1)⟩⟩, ?_⟩
    exact (show Below w.heap.size w _ from hn0.symm ▸ hlow).trans (belowK_b (w := w) (Nat.le_refl _) _ D _ _ (by omega) hK rfl rfl)
end Go.Proofs.Ytoahejjeihmiiaa
