/- The last ones first: slices.Backward over entries and over stores, as the loop's body sees it. -/
import Derived.Test.YtcddgcchpmjdiaaVm
import Derived.RangeFuncNested
import Derived.RangeFuncBound
import Derived.RangeFuncCalls
import Derived.RangeFuncLeaves
import Derived.Shelf.Abstract
import Derived.Shelf.RegionOpen
import Derived.WalkKit
import Derived.OwnWalkIn
import Derived.TacticsInMore
import Derived.LoopNIn
import Derived.LoopIn
import Derived.WalkMore
set_option maxRecDepth 100000
set_option linter.unusedVariables false
namespace Go.Proofs.Ytcddgcchpmjdiaa
open Go.RowKit Go.Shelf

attribute [local go_sem] Oper.semAt_some

theorem stepR_scope {P : Program} {b : Frame} {a : Act} {k : List Item} {cs : List Frame} {w : World} {c : Code} : step P (lone (b.atR a (.code (.scope c) :: k)) cs w) = .next (lone (b.atR a (.code c :: .inScope c :: k)) cs w) :=
  step_lone_go (by simp [stepG, stepG.exec, Frame.atR])
theorem stepR_inScope {P : Program} {b : Frame} {a : Act} {k : List Item} {cs : List Frame} {w : World} {c : Code} : step P (lone (b.atR a (.inScope c :: k)) cs w) = .next (lone (b.atR a k) cs w) :=
  step_lone_go (by simp [stepG, stepG.exec, Frame.atR])
/-- A scope through which the run goes without a goto, in a fence. -/
theorem wpIn_scope_straight {F : Fence} {n : Nat} {P : Program} {Q : Exit → Act → World → Prop} {a : Act} {w : World} {c : Code} (h : c.wpIn F n P (Exit.noGoto Q) a w) : (Code.scope c).wpIn F n P Q a w := by
  intro b k cs hro hb hr
  have h0 : (lone (b.atR a (.code (.scope c) :: k)) cs w).fenced P F := fenced_calm hb hr rfl
  obtain ⟨e, a₁, w₁, hq, harr⟩ := h b (.inScope c :: k) cs hro hb hr
  cases e with
  | normal => exact ⟨.normal, a₁, w₁, hq, .head h0 stepR_scope (StepsIn.trans harr (.one (fenced_calm hb hr rfl) stepR_inScope))⟩
  | exit id =>
    have hx : exitTo id (.inScope c :: k) = exitTo id k := by simp [exitTo]
    exact ⟨.exit id, a₁, w₁, hq, fun k' hk => .head h0 stepR_scope (harr.1 k' (by rw [hx]; exact hk)),
      fun hr' hk => let ⟨k₁, h1, h2⟩ := harr.2 hr' (by rw [hx]; exact hk); ⟨k₁, h1, .head h0 stepR_scope h2⟩⟩
  | goto l => exact hq.elim
  | ret => exact ⟨_, a₁, w₁, hq, .of_steps (.one h0 stepR_scope) harr⟩
  | panic ch => exact ⟨_, a₁, w₁, hq, .of_steps (.one h0 stepR_scope) harr⟩
  | outgrown => exact ⟨_, a₁, w₁, hq, .of_steps (.one h0 stepR_scope) harr⟩

/-! ### The order in which they come -/
def revF (L : Nat) : List (Fin L) := (List.finRange L).reverse
theorem revF_len (L : Nat) : (revF L).length = L := by simp [revF]
theorem revF_at (L k : Nat) (h : k < L) : (revF L)[k]'(by rw [revF_len]; exact h) = ⟨L - 1 - k, by omega⟩ := by simp [revF]
theorem revF_succ (L q : Nat) (h : q < L) : (revF L).take (L - (q + 1)) ++ [⟨q, h⟩] = (revF L).take (L - q) := by
  have e : L - q = L - (q + 1) + 1 := by omega
  rw [e, List.take_succ_eq_append_getElem (by rw [revF_len]; omega), revF_at L _ (by omega)]
  congr 2
  apply Fin.ext
  show q = L - 1 - (L - (q + 1))
  omega
theorem revF_all {L : Nat} (i : Fin L) : i ∈ revF L := by simp [revF]
/-- What has come ahead of one are just those behind it. -/
theorem revF_pre {L : Nat} {pre : List (Fin L)} {x i : Fin L} (h : pre ++ [x] <+: revF L) (hi : x < i) : i ∈ pre := by
  have hl : pre.length < L := by
    have := h.length_le
    rw [revF_len, List.length_append] at this
    simp at this
    omega
  have hx : (revF L)[pre.length]'(by rw [revF_len]; exact hl) = x := by
    have := h.getElem (i := pre.length) (by simp)
    rw [← this]
    simp
  rw [revF_at L _ hl] at hx
  have hv : L - 1 - pre.length = x.1 := congrArg Fin.val hx
  have hi2 : x.1 < i.1 := hi
  have h3 := i.2
  have e := h.getElem (i := L - 1 - i.1) (by simp; omega)
  rw [List.getElem_append_left (by omega), revF_at L _ (by omega)] at e
  have e2 : pre[L - 1 - i.1]'(by omega) = i := by rw [e]; apply Fin.ext; show L - 1 - (L - 1 - i.1) = i.1; omega
  rw [← e2]
  exact List.getElem_mem _


set_option maxHeartbeats 2000000 in
/-- The closure of slices.Backward, at a slice that lies below n₀. -/
theorem backE_in (F : Fence) (n : Nat) (hf : F.fn 54) (hro : F.round = none) (hn : 1 ≤ n) (l Bs n₀ b cap L : Nat) (ep : Nat → Int) (sv : Nat → Value) (hL : L ≤ 1000000) (hb : b < n₀) (hBn : Bs < n₀) (J Jx : List (Fin L) → World → Prop)
    (hY : ∀ pre (x : Fin L) W, J pre W → pre.length < L → YieldAt F (n - 1) Try.prog l #[.int .i64 ((x.1 : Nat) : Int), .agg #[.int .i64 (ep x.1), sv x.1]] W fun e W' =>
      (e = .returned (.bool true) ∧ J (pre ++ [x]) W' ∧ Below n₀ W W') ∨ (e = .returned (.bool false) ∧ Jx (pre ++ [x]) W'))
    (W : World) (hBs : W.cell? ⟨Bs, 0, none⟩ = some (.slice (some ⟨b, 0, none⟩) L cap)) (hc : ∀ j, j < L → W.cell? ⟨b, j * 2, none⟩ = some (.int .i64 (ep j)) ∧ W.cell? ⟨b, j * 2 + 1, none⟩ = some (sv j)) (h0 : J [] W) :
    CallsIn F n Try.prog 54 #[.func (.yield l) #[] #[], .pointer (some ⟨Bs, 0, none⟩)] W fun e W' => (∃ v, e = .returned v) ∧
      ((∃ ys, ys = revF L ∧ J ys W') ∨ (∃ pre, pre <+: revF L ∧ Jx pre W')) := by
  refine callsIn_of_wp Try.func54 rfl hf ?_ hro
  simp only [Try.ntmps54, List.size_toArray, List.length_cons, List.length_nil, Nat.reduceAdd, Nat.reduceSub, Array.replicate_succ, Array.replicate_zero, List.push_toArray, List.append_toArray, List.nil_append, List.cons_append]
  have hLI : (0 : Int) ≤ (L : Int) ∧ (L : Int) ≤ 1000000 := by omega
  gi_wp2
  gi_loopw [3] (fun i wr => ∃ q : Nat, q ≤ L ∧ i = .int .i64 ((q : Int) - 1) ∧ J ((revF L).take (L - q)) wr ∧ Below n₀ W wr)
    (fun i _ => (intOf i + 1).toNat)
  case atStart => exact ⟨L, Nat.le_refl _, by go_num, by simpa using h0, Below.refl _ _⟩
  case round =>
    obtain ⟨q, hq, rfl, hJs, hnx⟩ := hrel
    have hBr := (hnx.cell (p := ⟨Bs, 0, none⟩) hBn).trans hBs
    by_cases hlt : 0 < q
    · obtain ⟨j, rfl⟩ : ∃ j, q = j + 1 := ⟨q - 1, by omega⟩
      have hjL : j < L := by omega
      have hcx : wr.cell? ⟨b, j * 2, none⟩ = some (.int .i64 (ep j)) ∧ wr.cell? ⟨b, j * 2 + 1, none⟩ = some (sv j) := by
        obtain ⟨h0, h1⟩ := hc j hjL
        exact ⟨(hnx.cell (p := ⟨b, j * 2, none⟩) hb).trans h0, (hnx.cell (p := ⟨b, j * 2 + 1, none⟩) hb).trans h1⟩
      obtain ⟨c0, c1⟩ := hcx
      have hjI : (0 : Int) ≤ (j : Int) ∧ (j : Int) < (L : Int) := by omega
      obtain ⟨fn, tmps, assign, body, hy, hR⟩ := hY _ ⟨j, hjL⟩ wr hJs (by rw [List.length_take, revF_len]; omega)
      dsimp only at hy
      have hji : (((j + 1 : Nat) : Int) - 1) = (j : Int) := by omega
      rw [hji]
      gi_wp2
      refine hR.mono ?_
      rintro e W3 (⟨rfl, hJ3, hk3⟩ | ⟨rfl, hJx3⟩)
      · gi_wp2
        go_roundw
        case rel => exact ⟨j, by omega, by go_num, by rw [← revF_succ L j hjL]; exact hJ3, hnx.trans hk3⟩
        case measure => simp [intOf]
      · gi_wp2
        refine bodyPost_ret (results_none rfl _ _ _) rfl ?_
        exact ⟨⟨_, rfl⟩, .inr ⟨_, (by rw [revF_succ L j hjL]; exact List.take_prefix _ _), hJx3⟩⟩
    · obtain rfl : q = 0 := by omega
      gi_wp2
      go_end0
      exact ⟨⟨_, rfl⟩, .inl ⟨_, by rw [Nat.sub_zero]; exact List.take_of_length_le (by rw [revF_len]; exact Nat.le_refl _), hJs⟩⟩
set_option maxHeartbeats 2000000 in
/-- .. where there is none. -/
theorem backE_none (F : Fence) (n : Nat) (hf : F.fn 54) (hro : F.round = none) (l Bs cap : Nat) (A : Option Addr) (J : List (Fin 0) → World → Prop) (W : World) (hBs : W.cell? ⟨Bs, 0, none⟩ = some (.slice A 0 cap)) (h0 : J [] W) :
    CallsIn F n Try.prog 54 #[.func (.yield l) #[] #[], .pointer (some ⟨Bs, 0, none⟩)] W fun e W' => (∃ v, e = .returned v) ∧ J [] W' := by
  refine callsIn_of_wp Try.func54 rfl hf ?_ hro
  simp only [Try.ntmps54, List.size_toArray, List.length_cons, List.length_nil, Nat.reduceAdd, Nat.reduceSub, Array.replicate_succ, Array.replicate_zero, List.push_toArray, List.append_toArray, List.nil_append, List.cons_append]
  gi_wp2
  gi_loopw [3] (fun i wr => i = .int .i64 (-1) ∧ J [] wr) (fun _ _ => 0)
  case atStart => exact ⟨rfl, h0⟩
  case round =>
    obtain ⟨rfl, hJs⟩ := hrel
    gi_wp2
    go_end0
    exact ⟨⟨_, rfl⟩, hJs⟩
set_option maxHeartbeats 1000000 in
theorem backWE_in (F : Fence) (n : Nat) (hf : F.fn 50) (hro : F.round = none) (a : Option Addr) (len cap : Nat) (w : World) :
    CallsIn F n Try.prog 50 #[.slice a len cap] w fun e w' => e = .returned (.func (.func 54) #[] #[.pointer (some ⟨w.heap.size, 0, none⟩)]) ∧ w' = w.alloc (.cells #[.slice a len cap] 25) := by
  refine callsIn_of_wp Try.func50 rfl hf ?_ hro
  simp only [Try.ntmps50, List.size_toArray, List.length_cons, List.length_nil, Nat.reduceAdd, Nat.reduceSub, Array.replicate_succ, Array.replicate_zero, List.push_toArray, List.append_toArray, List.nil_append, List.cons_append]
  gi_wp2
  go_ret
  exact ⟨rfl, rfl⟩
/-- What slices.Backward hands back. -/
theorem backE_stops (F : Fence) (n : Nat) (hf : F.fn 54) (hro : F.round = none) (hn : 1 ≤ n) (Bs cap L : Nat) (A : Option Addr) (ep : Nat → Int) (sv : Nat → Value) (hL : L ≤ 1000000) (w : World) (hBs : w.cell? ⟨Bs, 0, none⟩ = some (.slice A L cap)) (hBn : Bs < w.heap.size)
    (hA : 0 < L → ∃ b, A = some ⟨b, 0, none⟩ ∧ b < w.heap.size ∧ ∀ j, j < L → w.cell? ⟨b, j * 2, none⟩ = some (.int .i64 (ep j)) ∧ w.cell? ⟨b, j * 2 + 1, none⟩ = some (sv j)) :
    SeqStopsK F n Try.prog 54 #[.pointer (some ⟨Bs, 0, none⟩)] (fun x : Fin L => #[.int .i64 ((x.1 : Nat) : Int), .agg #[.int .i64 (ep x.1), sv x.1]]) (Below w.heap.size) (fun ys => ys = revF L) (fun pre => pre <+: revF L) L w := fun l J Jx W hW _ _ hY h0 => by
  have hc' := (hW.cell (p := ⟨Bs, 0, none⟩) hBn).trans hBs
  by_cases hz : 0 < L
  · obtain ⟨b, rfl, hb, hcs⟩ := hA hz
    exact backE_in F n hf hro hn l Bs w.heap.size b cap L ep sv hL hb hBn J Jx hY W hc' (fun j hj => by
      obtain ⟨h0, h1⟩ := hcs j hj
      exact ⟨(hW.cell (p := ⟨b, j * 2, none⟩) hb).trans h0, (hW.cell (p := ⟨b, j * 2 + 1, none⟩) hb).trans h1⟩) h0
  · obtain rfl : L = 0 := by omega
    exact (backE_none F n hf hro l Bs cap A J W hc' h0).mono fun e W' ⟨he, hj⟩ => ⟨he, .inl ⟨[], by simp [revF], hj⟩⟩


set_option maxHeartbeats 2000000 in
/-- The closure of slices.Backward, at a slice that lies below n₀. -/
theorem backS_in (F : Fence) (n : Nat) (hf : F.fn 55) (hro : F.round = none) (hn : 1 ≤ n) (l Bs n₀ b cap L : Nat) (st : Nat → Wr) (hL : L ≤ 1000000) (hb : b < n₀) (hBn : Bs < n₀) (J Jx : List (Fin L) → World → Prop)
    (hY : ∀ pre (x : Fin L) W, J pre W → pre.length < L → YieldAt F (n - 1) Try.prog l #[.int .i64 ((x.1 : Nat) : Int), .agg #[.int .i64 (st x.1).id, .int .i64 (st x.1).addr, .int .i64 (st x.1).size, .int .u64 (st x.1).data]] W fun e W' =>
      (e = .returned (.bool true) ∧ J (pre ++ [x]) W' ∧ Below n₀ W W') ∨ (e = .returned (.bool false) ∧ Jx (pre ++ [x]) W'))
    (W : World) (hBs : W.cell? ⟨Bs, 0, none⟩ = some (.slice (some ⟨b, 0, none⟩) L cap)) (hc : ∀ j, j < L → W.cell? ⟨b, j * 4, none⟩ = some (.int .i64 (st j).id) ∧ W.cell? ⟨b, j * 4 + 1, none⟩ = some (.int .i64 (st j).addr) ∧ W.cell? ⟨b, j * 4 + 2, none⟩ = some (.int .i64 (st j).size) ∧ W.cell? ⟨b, j * 4 + 3, none⟩ = some (.int .u64 (st j).data)) (h0 : J [] W) :
    CallsIn F n Try.prog 55 #[.func (.yield l) #[] #[], .pointer (some ⟨Bs, 0, none⟩)] W fun e W' => (∃ v, e = .returned v) ∧
      ((∃ ys, ys = revF L ∧ J ys W') ∨ (∃ pre, pre <+: revF L ∧ Jx pre W')) := by
  refine callsIn_of_wp Try.func55 rfl hf ?_ hro
  simp only [Try.ntmps55, List.size_toArray, List.length_cons, List.length_nil, Nat.reduceAdd, Nat.reduceSub, Array.replicate_succ, Array.replicate_zero, List.push_toArray, List.append_toArray, List.nil_append, List.cons_append]
  have hLI : (0 : Int) ≤ (L : Int) ∧ (L : Int) ≤ 1000000 := by omega
  gi_wp2
  gi_loopw [3] (fun i wr => ∃ q : Nat, q ≤ L ∧ i = .int .i64 ((q : Int) - 1) ∧ J ((revF L).take (L - q)) wr ∧ Below n₀ W wr)
    (fun i _ => (intOf i + 1).toNat)
  case atStart => exact ⟨L, Nat.le_refl _, by go_num, by simpa using h0, Below.refl _ _⟩
  case round =>
    obtain ⟨q, hq, rfl, hJs, hnx⟩ := hrel
    have hBr := (hnx.cell (p := ⟨Bs, 0, none⟩) hBn).trans hBs
    by_cases hlt : 0 < q
    · obtain ⟨j, rfl⟩ : ∃ j, q = j + 1 := ⟨q - 1, by omega⟩
      have hjL : j < L := by omega
      have hcx : wr.cell? ⟨b, j * 4, none⟩ = some (.int .i64 (st j).id) ∧ wr.cell? ⟨b, j * 4 + 1, none⟩ = some (.int .i64 (st j).addr) ∧ wr.cell? ⟨b, j * 4 + 2, none⟩ = some (.int .i64 (st j).size) ∧ wr.cell? ⟨b, j * 4 + 3, none⟩ = some (.int .u64 (st j).data) := by
        obtain ⟨h0, h1, h2, h3⟩ := hc j hjL
        exact ⟨(hnx.cell (p := ⟨b, j * 4, none⟩) hb).trans h0, (hnx.cell (p := ⟨b, j * 4 + 1, none⟩) hb).trans h1, (hnx.cell (p := ⟨b, j * 4 + 2, none⟩) hb).trans h2, (hnx.cell (p := ⟨b, j * 4 + 3, none⟩) hb).trans h3⟩
      obtain ⟨c0, c1, c2, c3⟩ := hcx
      have hjI : (0 : Int) ≤ (j : Int) ∧ (j : Int) < (L : Int) := by omega
      obtain ⟨fn, tmps, assign, body, hy, hR⟩ := hY _ ⟨j, hjL⟩ wr hJs (by rw [List.length_take, revF_len]; omega)
      dsimp only at hy
      have hji : (((j + 1 : Nat) : Int) - 1) = (j : Int) := by omega
      rw [hji]
      gi_wp2
      refine hR.mono ?_
      rintro e W3 (⟨rfl, hJ3, hk3⟩ | ⟨rfl, hJx3⟩)
      · gi_wp2
        go_roundw
        case rel => exact ⟨j, by omega, by go_num, by rw [← revF_succ L j hjL]; exact hJ3, hnx.trans hk3⟩
        case measure => simp [intOf]
      · gi_wp2
        refine bodyPost_ret (results_none rfl _ _ _) rfl ?_
        exact ⟨⟨_, rfl⟩, .inr ⟨_, (by rw [revF_succ L j hjL]; exact List.take_prefix _ _), hJx3⟩⟩
    · obtain rfl : q = 0 := by omega
      gi_wp2
      go_end0
      exact ⟨⟨_, rfl⟩, .inl ⟨_, by rw [Nat.sub_zero]; exact List.take_of_length_le (by rw [revF_len]; exact Nat.le_refl _), hJs⟩⟩
set_option maxHeartbeats 2000000 in
/-- .. where there is none. -/
theorem backS_none (F : Fence) (n : Nat) (hf : F.fn 55) (hro : F.round = none) (l Bs cap : Nat) (A : Option Addr) (J : List (Fin 0) → World → Prop) (W : World) (hBs : W.cell? ⟨Bs, 0, none⟩ = some (.slice A 0 cap)) (h0 : J [] W) :
    CallsIn F n Try.prog 55 #[.func (.yield l) #[] #[], .pointer (some ⟨Bs, 0, none⟩)] W fun e W' => (∃ v, e = .returned v) ∧ J [] W' := by
  refine callsIn_of_wp Try.func55 rfl hf ?_ hro
  simp only [Try.ntmps55, List.size_toArray, List.length_cons, List.length_nil, Nat.reduceAdd, Nat.reduceSub, Array.replicate_succ, Array.replicate_zero, List.push_toArray, List.append_toArray, List.nil_append, List.cons_append]
  gi_wp2
  gi_loopw [3] (fun i wr => i = .int .i64 (-1) ∧ J [] wr) (fun _ _ => 0)
  case atStart => exact ⟨rfl, h0⟩
  case round =>
    obtain ⟨rfl, hJs⟩ := hrel
    gi_wp2
    go_end0
    exact ⟨⟨_, rfl⟩, hJs⟩
set_option maxHeartbeats 1000000 in
theorem backWS_in (F : Fence) (n : Nat) (hf : F.fn 51) (hro : F.round = none) (a : Option Addr) (len cap : Nat) (w : World) :
    CallsIn F n Try.prog 51 #[.slice a len cap] w fun e w' => e = .returned (.func (.func 55) #[] #[.pointer (some ⟨w.heap.size, 0, none⟩)]) ∧ w' = w.alloc (.cells #[.slice a len cap] 39) := by
  refine callsIn_of_wp Try.func51 rfl hf ?_ hro
  simp only [Try.ntmps51, List.size_toArray, List.length_cons, List.length_nil, Nat.reduceAdd, Nat.reduceSub, Array.replicate_succ, Array.replicate_zero, List.push_toArray, List.append_toArray, List.nil_append, List.cons_append]
  gi_wp2
  go_ret
  exact ⟨rfl, rfl⟩
/-- What slices.Backward hands back. -/
theorem backS_stops (F : Fence) (n : Nat) (hf : F.fn 55) (hro : F.round = none) (hn : 1 ≤ n) (Bs cap L : Nat) (A : Option Addr) (st : Nat → Wr) (hL : L ≤ 1000000) (w : World) (hBs : w.cell? ⟨Bs, 0, none⟩ = some (.slice A L cap)) (hBn : Bs < w.heap.size)
    (hA : 0 < L → ∃ b, A = some ⟨b, 0, none⟩ ∧ b < w.heap.size ∧ ∀ j, j < L → w.cell? ⟨b, j * 4, none⟩ = some (.int .i64 (st j).id) ∧ w.cell? ⟨b, j * 4 + 1, none⟩ = some (.int .i64 (st j).addr) ∧ w.cell? ⟨b, j * 4 + 2, none⟩ = some (.int .i64 (st j).size) ∧ w.cell? ⟨b, j * 4 + 3, none⟩ = some (.int .u64 (st j).data)) :
    SeqStopsK F n Try.prog 55 #[.pointer (some ⟨Bs, 0, none⟩)] (fun x : Fin L => #[.int .i64 ((x.1 : Nat) : Int), .agg #[.int .i64 (st x.1).id, .int .i64 (st x.1).addr, .int .i64 (st x.1).size, .int .u64 (st x.1).data]]) (Below w.heap.size) (fun ys => ys = revF L) (fun pre => pre <+: revF L) L w := fun l J Jx W hW _ _ hY h0 => by
  have hc' := (hW.cell (p := ⟨Bs, 0, none⟩) hBn).trans hBs
  by_cases hz : 0 < L
  · obtain ⟨b, rfl, hb, hcs⟩ := hA hz
    exact backS_in F n hf hro hn l Bs w.heap.size b cap L st hL hb hBn J Jx hY W hc' (fun j hj => by
      obtain ⟨h0, h1, h2, h3⟩ := hcs j hj
      exact ⟨(hW.cell (p := ⟨b, j * 4, none⟩) hb).trans h0, (hW.cell (p := ⟨b, j * 4 + 1, none⟩) hb).trans h1, (hW.cell (p := ⟨b, j * 4 + 2, none⟩) hb).trans h2, (hW.cell (p := ⟨b, j * 4 + 3, none⟩) hb).trans h3⟩) h0
  · obtain rfl : L = 0 := by omega
    exact (backS_none F n hf hro l Bs cap A J W hc' h0).mono fun e W' ⟨he, hj⟩ => ⟨he, .inl ⟨[], by simp [revF], hj⟩⟩
end Go.Proofs.Ytcddgcchpmjdiaa
