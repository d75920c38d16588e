/- Package lsq: slices.Backward over slots. -/
import Derived.Test.YtoaonoflekcccaaDoorXe
import Derived.Test.YtoaonoflekcccaaDoorVk
import Derived.Test.YtoaonoflekcccaaDoorIr
set_option maxRecDepth 100000
set_option linter.unusedVariables false
namespace Go.Proofs.YtoaonoflekcccaaDoor
open Go.RowKit Go.Shelf

attribute [local go_sem] Oper.semAt_some

set_option maxHeartbeats 2000000 in
/-- The closure of slices.Backward, at slots that lie below n₀. -/
theorem backL_in (F : Fence) (n : Nat) (hf : F.fn 30) (hro : F.round = none) (hn : 1 ≤ n) (l Bs n₀ b off cap L : Nat) (l0 : List Slt) (hL : L ≤ 1000000) (hb : b < n₀) (hBn : Bs < n₀) (J Jx : List (Fin L) → World → Prop)
    (hY : ∀ pre (x : Fin L) W, J pre W → pre.length < L → YieldAt F (n - 1) Tryd.prog l #[.int .i64 ((x.1 : Nat) : Int), .agg (sltC (sAt l0 x.1))] W fun e W' =>
      (e = .returned (.bool true) ∧ J (pre ++ [x]) W' ∧ Below n₀ W W') ∨ (e = .returned (.bool false) ∧ Jx (pre ++ [x]) W'))
    (W : World) (hBs : W.cell? ⟨Bs, 0, none⟩ = some (.slice (some ⟨b, off, none⟩) L cap)) (hc : ∀ j, j < L → ∀ m v, (sltC (sAt l0 j))[m]? = some v → W.cell? ⟨b, off + j * 18 + m, none⟩ = some v) (h0 : J [] W) :
    CallsIn F n Tryd.prog 30 #[.func (.yield l) #[] #[], .pointer (some ⟨Bs, 0, none⟩)] W fun e W' => (∃ v, e = .returned v) ∧
      ((∃ ys, ys = revF L ∧ J ys W') ∨ (∃ pre, pre <+: revF L ∧ Jx pre W')) := by
  refine callsIn_of_wp Tryd.func30 rfl hf ?_ hro
  simp only [Tryd.ntmps30, List.size_toArray, List.length_cons, List.length_nil, Nat.reduceAdd, Nat.reduceSub, Array.replicate_succ, Array.replicate_zero, List.push_toArray, List.append_toArray, List.nil_append, List.cons_append]
  have hLI : (0 : Int) ≤ (L : Int) ∧ (L : Int) ≤ 1000000 := by omega
  gi_wp2
  gi_loopw [3] (fun i wr => ∃ q : Nat, q ≤ L ∧ i = .int .i64 ((q : Int) - 1) ∧ J ((revF L).take (L - q)) wr ∧ Below n₀ W wr)
    (fun i _ => (intOf i + 1).toNat)
  case atStart => exact ⟨L, Nat.le_refl _, by go_num, by simpa using h0, Below.refl _ _⟩
  case round =>
    obtain ⟨q, hq, rfl, hJs, hnx⟩ := hrel
    have hBr := (hnx.cell (p := ⟨Bs, 0, none⟩) hBn).trans hBs
    by_cases hlt : 0 < q
    · obtain ⟨j, rfl⟩ : ∃ j, q = j + 1 := ⟨q - 1, by omega⟩
      have hjL : j < L := by omega
      have HCX : Hid (∀ m v, (sltC (sAt l0 j))[m]? = some v → wr.cell? ⟨b, off + j * 18 + m, none⟩ = some v) := fun m v hv => (hnx.cell (p := ⟨b, off + j * 18 + m, none⟩) hb).trans (hc j hjL m v hv)
      have hjI : (0 : Int) ≤ (j : Int) ∧ (j : Int) < (L : Int) := by omega
      obtain ⟨fn, tmps, assign, body, hy, hR⟩ := hY _ ⟨j, hjL⟩ wr hJs (by rw [List.length_take, revF_len]; omega)
      dsimp only at hy
      have hji : (((j + 1 : Nat) : Int) - 1) = (j : Int) := by omega
      rw [hji]
      gi_wp2_with (first
        | (with_reducible refine val_in (o := ⟨some 16, .load _ _, _, _, _, _⟩) (by kernel_rfl) (fun _ h => by cases h) rfl (ex_slt (sAt l0 j) rfl rfl HCX.out Tryd.underlying29 rfl (by kernel_rfl)) ?_))
      refine hR.mono ?_
      rintro e W3 (⟨rfl, hJ3, hk3⟩ | ⟨rfl, hJx3⟩)
      · gi_wp2
        go_roundw
        case rel => exact ⟨j, by omega, by go_num, by rw [← revF_succ L j hjL]; exact hJ3, hnx.trans hk3⟩
        case measure => simp [intOf]
      · gi_wp2
        refine bodyPost_ret (results_none rfl _ _ _) rfl ?_
        exact ⟨⟨_, rfl⟩, .inr ⟨_, (by rw [revF_succ L j hjL]; exact List.take_prefix _ _), hJx3⟩⟩
    · obtain rfl : q = 0 := by omega
      gi_wp2
      go_end0
      exact ⟨⟨_, rfl⟩, .inl ⟨_, by rw [Nat.sub_zero]; exact List.take_of_length_le (by rw [revF_len]; exact Nat.le_refl _), hJs⟩⟩
set_option maxHeartbeats 2000000 in
/-- .. where there is none. -/
theorem backL_none (F : Fence) (n : Nat) (hf : F.fn 30) (hro : F.round = none) (l Bs cap : Nat) (A : Option Addr) (J : List (Fin 0) → World → Prop) (W : World) (hBs : W.cell? ⟨Bs, 0, none⟩ = some (.slice A 0 cap)) (h0 : J [] W) :
    CallsIn F n Tryd.prog 30 #[.func (.yield l) #[] #[], .pointer (some ⟨Bs, 0, none⟩)] W fun e W' => (∃ v, e = .returned v) ∧ J [] W' := by
  refine callsIn_of_wp Tryd.func30 rfl hf ?_ hro
  simp only [Tryd.ntmps30, List.size_toArray, List.length_cons, List.length_nil, Nat.reduceAdd, Nat.reduceSub, Array.replicate_succ, Array.replicate_zero, List.push_toArray, List.append_toArray, List.nil_append, List.cons_append]
  gi_wp2
  gi_loopw [3] (fun i wr => i = .int .i64 (-1) ∧ J [] wr) (fun _ _ => 0)
  case atStart => exact ⟨rfl, h0⟩
  case round =>
    obtain ⟨rfl, hJs⟩ := hrel
    gi_wp2
    go_end0
    exact ⟨⟨_, rfl⟩, hJs⟩
set_option maxHeartbeats 1000000 in
theorem backWL_in (F : Fence) (n : Nat) (hf : F.fn 23) (hro : F.round = none) (a : Option Addr) (len cap : Nat) (w : World) :
    CallsIn F n Tryd.prog 23 #[.slice a len cap] w fun e w' => e = .returned (.func (.func 30) #[] #[.pointer (some ⟨w.heap.size, 0, none⟩)]) ∧ w' = w.alloc (.cells #[.slice a len cap] 22) := by
  refine callsIn_of_wp Tryd.func23 rfl hf ?_ hro
  simp only [Tryd.ntmps23, List.size_toArray, List.length_cons, List.length_nil, Nat.reduceAdd, Nat.reduceSub, Array.replicate_succ, Array.replicate_zero, List.push_toArray, List.append_toArray, List.nil_append, List.cons_append]
  gi_wp2
  go_ret
  exact ⟨rfl, rfl⟩
/-- What slices.Backward hands back. -/
theorem backL_stops (F : Fence) (n : Nat) (hf : F.fn 30) (hro : F.round = none) (hn : 1 ≤ n) (Bs cap L : Nat) (A : Option Addr) (l0 : List Slt) (hL : L ≤ 1000000) (w : World) (hBs : w.cell? ⟨Bs, 0, none⟩ = some (.slice A L cap)) (hBn : Bs < w.heap.size)
    (hA : 0 < L → ∃ b off, A = some ⟨b, off, none⟩ ∧ b < w.heap.size ∧ ∀ j, j < L → ∀ m v, (sltC (sAt l0 j))[m]? = some v → w.cell? ⟨b, off + j * 18 + m, none⟩ = some v) :
    SeqStopsK F n Tryd.prog 30 #[.pointer (some ⟨Bs, 0, none⟩)] (fun x : Fin L => #[.int .i64 ((x.1 : Nat) : Int), .agg (sltC (sAt l0 x.1))]) (Below w.heap.size) (fun ys => ys = revF L) (fun pre => pre <+: revF L) L w := fun l J Jx W hW _ _ hY h0 => by
  have hc' := (hW.cell (p := ⟨Bs, 0, none⟩) hBn).trans hBs
  by_cases hz : 0 < L
  · obtain ⟨b, off, rfl, hb, hcs⟩ := hA hz
    exact backL_in F n hf hro hn l Bs w.heap.size b off cap L l0 hL hb hBn J Jx hY W hc' (fun j hj m v hv => (hW.cell (p := ⟨b, off + j * 18 + m, none⟩) hb).trans (hcs j hj m v hv)) h0
  · obtain rfl : L = 0 := by omega
    exact (backL_none F n hf hro l Bs cap A J W hc' h0).mono fun e W' ⟨he, hj⟩ => ⟨he, .inl ⟨[], by simp [revF], hj⟩⟩
theorem results_cell1 {P : Program} {fn : Func} {p : Tmp} {ty : TypeId} {v : Value} {ad : Addr} {w : World} {tmps : Array Value} (h : fn.results = #[.cell p ty]) (hp : tmps.getD p undef = .pointer (some ad)) (hc : (loadVar ty ad).run P w = .ok v w) :
    (results fn tmps).run P w = .ok v w := by
  have hp' : tmps[p]?.getD undef = .pointer (some ad) := by simpa using hp
  simp [results, h, hp', asAddr, hc]
theorem run_loadVar_int {P : Program} {t : TypeId} {k : IntKind} {ad : Addr} {v : Value} {w : World} (hu : P.underlying t = some (.int k)) (hc : w.cell? ad = some v) : (loadVar t ad).run P w = .ok v w := by
  have ha : (isAgg t).run P w = .ok false w := by
    unfold isAgg
    rw [Sem.run_bind, run_underlying hu w]
    rfl
  unfold loadVar
  simp [Sem.run_bind, ha, hc, go_sem]
end Go.Proofs.YtoaonoflekcccaaDoor
