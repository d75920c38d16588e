/- Package names: Claims, Value, Values. -/
import Derived.Test.YtoahejjeihmiiaaNr
import Derived.Deep.QuietTactic
import Derived.BigQuiet
set_option maxRecDepth 100000
set_option linter.unusedVariables false
namespace Go.Proofs.Ytoahejjeihmiiaa
open Go.RowKit

theorem claims_nil (w : World) : Calls Try.prog 18 #[.pointer none] w fun e w' => e = .returned (.int .i64 0) ∧ w = w' := by
  go_enter Try.func18, Try.ntmps18
  go_wp2
  go_ret
  exact ⟨rfl, rfl⟩
theorem claims_c {s : Nst} {p : Npl} {w : World} (h : NAt s p w) : Calls Try.prog 18 #[.pointer (some ⟨p.g, 0, none⟩)] w fun e w' => e = .returned (.int .i64 (s.l.length : Int)) ∧ w = w' := by
  obtain ⟨A, c, hv, h1, h2, _⟩ := h.row.shape
  have q := (h.head.cell 120).trans (nCells_l s p.vl)
  rw [hv] at q
  generalize s.l.length = n at *
  generalize p.g = g at *
  clear h hv
  go_enter Try.func18, Try.ntmps18
  go_wp2
  go_ret
  exact ⟨rfl, rfl⟩
theorem value_nil (c : Int) (w : World) : Calls Try.prog 23 #[.pointer none, .int .i64 c] w fun e w' => e = .returned (.tuple #[.int .u64 0, .bool false]) ∧ w = w' := by
  go_enter Try.func23, Try.ntmps23
  go_wp2
  go_ret2
  exact ⟨rfl, rfl⟩
set_option maxHeartbeats 2000000 in
theorem nvalue_c {s : Nst} {p : Npl} {w : World} (h : NAt s p w) (c : Int) : Calls Try.prog 23 #[.pointer (some ⟨p.g, 0, none⟩), .int .i64 c] w fun e w' => e = .returned (.tuple #[.int .u64 (valN s c).1, .bool (valN s c).2]) ∧ ∃ n, w' = w.drewN n := by
  by_cases hc : 0 ≤ c ∧ c < 44
  · obtain ⟨k, rfl⟩ : ∃ k : Nat, c = (k : Int) := ⟨c.toNat, by omega⟩
    have hk : k < 44 := by omega
    have hkI : (0 : Int) ≤ (k : Int) ∧ (k : Int) < 44 := hc
    have hv : valN s (k : Int) = (s.v k, s.y k) := by unfold valN; rw [if_pos hc]; rfl
    rw [hv]
    have q0 := (h.head.cell (2 * k)).trans (nCells_v s p.vl hk)
    have q1 := (h.head.cell (2 * k + 1)).trans (nCells_y s p.vl hk)
    rw [show 2 * k = k * 2 by omega] at q0 q1
    have d1 : decide ((k : Int) < 0) = false := decide_eq_false (by omega)
    have d2 : decide ((44 : Int) ≤ (k : Int)) = false := decide_eq_false (by omega)
    dsimp only
    generalize p.g = g at *
    generalize s.v k = v at *
    generalize s.y k = y at *
    clear h hv hc
    go_enter Try.func23, Try.ntmps23
    go_wp2_with (fail)
    go_quiet (fail)
    go_wp2
    go_ret2
    exact ⟨rfl, _, rfl⟩
  · have hv : valN s c = (0, false) := by unfold valN; rw [if_neg hc]
    rw [hv]
    dsimp only
    generalize p.g = g at *
    by_cases h0 : c < 0
    · clear h hv hc
      go_enter Try.func23, Try.ntmps23
      go_wp2
      go_ret2
      exact ⟨rfl, 0, rfl⟩
    · have h1 : (44 : Int) ≤ c := by omega
      clear h hv hc
      go_enter Try.func23, Try.ntmps23
      go_wp2
      go_ret2
      exact ⟨rfl, 0, rfl⟩
/-- The settled values, the first k of them. -/
def valsK (s : Nst) (k : Nat) : Nat → Int := fun r => if r < k then s.v (s.s r) else 0
theorem valsK_next (s : Nst) (k : Nat) : updN (valsK s k) k (s.v (s.s k)) = valsK s (k + 1) := by
  funext j
  unfold updN valsK
  by_cases h : j = k
  · simp [h]
  · by_cases h2 : j < k
    · simp [h, h2, show j < k + 1 by omega]
    · simp [h, h2, show ¬ j < k + 1 by omega]
def valsN (s : Nst) : Nat → Int := valsK s 32
theorem x0 : xCells (fun _ => 0) = #[.int .u64 0, .int .u64 0, .int .u64 0, .int .u64 0, .int .u64 0, .int .u64 0, .int .u64 0, .int .u64 0, .int .u64 0, .int .u64 0, .int .u64 0, .int .u64 0, .int .u64 0, .int .u64 0, .int .u64 0, .int .u64 0, .int .u64 0, .int .u64 0, .int .u64 0, .int .u64 0, .int .u64 0, .int .u64 0, .int .u64 0, .int .u64 0, .int .u64 0, .int .u64 0, .int .u64 0, .int .u64 0, .int .u64 0, .int .u64 0, .int .u64 0, .int .u64 0] := rfl
theorem vals0 (s : Nst) : xCells (valsK s 0) = #[.int .u64 0, .int .u64 0, .int .u64 0, .int .u64 0, .int .u64 0, .int .u64 0, .int .u64 0, .int .u64 0, .int .u64 0, .int .u64 0, .int .u64 0, .int .u64 0, .int .u64 0, .int .u64 0, .int .u64 0, .int .u64 0, .int .u64 0, .int .u64 0, .int .u64 0, .int .u64 0, .int .u64 0, .int .u64 0, .int .u64 0, .int .u64 0, .int .u64 0, .int .u64 0, .int .u64 0, .int .u64 0, .int .u64 0, .int .u64 0, .int .u64 0, .int .u64 0] := rfl
theorem zero_arr (w : World) : Blk (xCells fun _ => 0) 23 w.heap.size (w.alloc (.cells #[.int .u64 0, .int .u64 0, .int .u64 0, .int .u64 0, .int .u64 0, .int .u64 0, .int .u64 0, .int .u64 0, .int .u64 0, .int .u64 0, .int .u64 0, .int .u64 0, .int .u64 0, .int .u64 0, .int .u64 0, .int .u64 0, .int .u64 0, .int .u64 0, .int .u64 0, .int .u64 0, .int .u64 0, .int .u64 0, .int .u64 0, .int .u64 0, .int .u64 0, .int .u64 0, .int .u64 0, .int .u64 0, .int .u64 0, .int .u64 0, .int .u64 0, .int .u64 0] 23)) := Blk.new _ _ _
theorem xCells_one (x : Nat → Int) : ∀ v ∈ (xCells x).toList, v.oneCell' = true := by
  intro v hv
  unfold xCells rowK at hv
  simp only [List.mem_map] at hv
  obtain ⟨k, _, rfl⟩ := hv
  rfl
set_option maxHeartbeats 2000000 in
theorem values_nil (w : World) : Calls Try.prog 21 #[.pointer none] w fun e w' => e = .returned (.agg (xCells fun _ => 0)) ∧ BW w w' := by
  have HB1 := Lib.hid (BW.new (Below.refl _ w) (.cells #[.int .u64 0, .int .u64 0, .int .u64 0, .int .u64 0, .int .u64 0, .int .u64 0, .int .u64 0, .int .u64 0, .int .u64 0, .int .u64 0, .int .u64 0, .int .u64 0, .int .u64 0, .int .u64 0, .int .u64 0, .int .u64 0, .int .u64 0, .int .u64 0, .int .u64 0, .int .u64 0, .int .u64 0, .int .u64 0, .int .u64 0, .int .u64 0, .int .u64 0, .int .u64 0, .int .u64 0, .int .u64 0, .int .u64 0, .int .u64 0, .int .u64 0, .int .u64 0] 23))
  go_enter Try.func21, Try.ntmps21
  go_upto_region 1 with (fail)
  have H1 := zero_arr w
  generalize w.alloc _ = w1 at *
  have H2 := zero_arr w1
  have HB2 := Lib.hid (BW.on HB1.out (BW.new (Below.refl _ w1) (.cells #[.int .u64 0, .int .u64 0, .int .u64 0, .int .u64 0, .int .u64 0, .int .u64 0, .int .u64 0, .int .u64 0, .int .u64 0, .int .u64 0, .int .u64 0, .int .u64 0, .int .u64 0, .int .u64 0, .int .u64 0, .int .u64 0, .int .u64 0, .int .u64 0, .int .u64 0, .int .u64 0, .int .u64 0, .int .u64 0, .int .u64 0, .int .u64 0, .int .u64 0, .int .u64 0, .int .u64 0, .int .u64 0, .int .u64 0, .int .u64 0, .int .u64 0, .int .u64 0] 23)))
  have H12 := H1.alloc (.cells #[.int .u64 0, .int .u64 0, .int .u64 0, .int .u64 0, .int .u64 0, .int .u64 0, .int .u64 0, .int .u64 0, .int .u64 0, .int .u64 0, .int .u64 0, .int .u64 0, .int .u64 0, .int .u64 0, .int .u64 0, .int .u64 0, .int .u64 0, .int .u64 0, .int .u64 0, .int .u64 0, .int .u64 0, .int .u64 0, .int .u64 0, .int .u64 0, .int .u64 0, .int .u64 0, .int .u64 0, .int .u64 0, .int .u64 0, .int .u64 0, .int .u64 0, .int .u64 0] 23)
  have hlt : w.heap.size < w1.heap.size := H1.lt
  obtain ⟨g1, hg1⟩ : ∃ g, w.heap.size = g := ⟨_, rfl⟩
  obtain ⟨g2, hg2⟩ : ∃ g, w1.heap.size = g := ⟨_, rfl⟩
  rw [hg1] at H12
  rw [hg2] at H2
  rw [hg1, hg2] at hlt
  clear H1 HB1
  go_upto_region 2 with (fail)
  generalize w1.alloc _ = w2 at *
  try rw [hg1]
  try rw [hg2]
  have HG1 := Lib.hid hg1
  clear hg1 hg2
  obtain ⟨w3, e3, b3, k3⟩ := (Has.of H12 (xCells_size _)).put (P := Try.prog) (xCells fun _ => 0) (xCells_size _) (xCells_one _) (ty := 23) (by kernel_rfl)
  have HB3 : Hid (BW w w3) := Below.stored HB2.out k3 (by rw [HG1.out]; exact Nat.le_refl _) (Below.size HB2.out)
  clear H12 k3 HB2
  go_wp2_with (first
    | (with_reducible refine Hz.val_arm (o := ⟨some 8, .load _ _, _, _, _, _⟩) (by kernel_rfl) (Hz.ex_load_all 23 (.tmp 3) rfl rfl H2 Try.underlying23 rfl (by rw [xCells_size]; kernel_rfl)) ?_)
    | (with_reducible refine store_blk (o := ⟨none, .store _ (.tmp 2) (.tmp 8), _, _, _, _⟩) rfl 23 (.tmp 2) (.tmp 8) rfl rfl rfl e3 ?_))
  exact bodyPost_ret (results_blk1 rfl rfl b3 Try.underlying23 rfl (by rw [xCells_size]; kernel_rfl)) rfl ⟨rfl, HB3.out⟩
/-- The settled cells, as a value. -/
def sL (s : Nst) : List Value := (List.range 32).map fun r => .int .i64 (s.s r : Int)
theorem sL_len (s : Nst) : (sL s).length = 32 := by unfold sL; simp
theorem sL_at (s : Nst) {r : Nat} (h : r < 32) : (sL s)[r]? = some (.int .i64 (s.s r : Int)) := by unfold sL; simp [h]
theorem settled_mid (s : Nst) (vl : Value) : ∀ j v, (sL s)[j]? = some v → (nCells s vl)[88 + j]? = some v := by
  intro j v hv
  have hj : j < 32 := by have := (List.getElem?_eq_some_iff.1 hv).1; rwa [sL_len] at this
  rw [nCells_s s vl hj, ← hv, sL_at s hj]
set_option maxHeartbeats 4000000 in
theorem values_c {s : Nst} {p : Npl} {w : World} (h : NAt s p w) (ok : NOk s) : Calls Try.prog 21 #[.pointer (some ⟨p.g, 0, none⟩)] w fun e w' => e = .returned (.agg (xCells (valsN s))) ∧ BW w w' := by
  have HB1 := Lib.hid (BW.new (Below.refl _ w) (.cells #[.int .u64 0, .int .u64 0, .int .u64 0, .int .u64 0, .int .u64 0, .int .u64 0, .int .u64 0, .int .u64 0, .int .u64 0, .int .u64 0, .int .u64 0, .int .u64 0, .int .u64 0, .int .u64 0, .int .u64 0, .int .u64 0, .int .u64 0, .int .u64 0, .int .u64 0, .int .u64 0, .int .u64 0, .int .u64 0, .int .u64 0, .int .u64 0, .int .u64 0, .int .u64 0, .int .u64 0, .int .u64 0, .int .u64 0, .int .u64 0, .int .u64 0, .int .u64 0] 23))
  have HH := Lib.hid (fun x (hx : BW w x) => h.head.on hx)
  have hgl : p.g < w.heap.size := h.head.lt
  generalize p.vl = vl at *
  generalize p.g = g at *
  clear h
  go_enter Try.func21, Try.ntmps21
  go_upto_region 1 with (fail)
  have H1 := zero_arr w
  generalize w.alloc _ = w1 at *
  have H2 : Blk (xCells (valsK s 0)) _ _ _ := zero_arr w1
  have HB2 := Lib.hid (BW.on HB1.out (BW.new (Below.refl _ w1) (.cells #[.int .u64 0, .int .u64 0, .int .u64 0, .int .u64 0, .int .u64 0, .int .u64 0, .int .u64 0, .int .u64 0, .int .u64 0, .int .u64 0, .int .u64 0, .int .u64 0, .int .u64 0, .int .u64 0, .int .u64 0, .int .u64 0, .int .u64 0, .int .u64 0, .int .u64 0, .int .u64 0, .int .u64 0, .int .u64 0, .int .u64 0, .int .u64 0, .int .u64 0, .int .u64 0, .int .u64 0, .int .u64 0, .int .u64 0, .int .u64 0, .int .u64 0, .int .u64 0] 23)))
  have H12 := H1.alloc (.cells #[.int .u64 0, .int .u64 0, .int .u64 0, .int .u64 0, .int .u64 0, .int .u64 0, .int .u64 0, .int .u64 0, .int .u64 0, .int .u64 0, .int .u64 0, .int .u64 0, .int .u64 0, .int .u64 0, .int .u64 0, .int .u64 0, .int .u64 0, .int .u64 0, .int .u64 0, .int .u64 0, .int .u64 0, .int .u64 0, .int .u64 0, .int .u64 0, .int .u64 0, .int .u64 0, .int .u64 0, .int .u64 0, .int .u64 0, .int .u64 0, .int .u64 0, .int .u64 0] 23)
  have hlt : w.heap.size < w1.heap.size := H1.lt
  obtain ⟨g1, hg1⟩ : ∃ g, w.heap.size = g := ⟨_, rfl⟩
  obtain ⟨g2, hg2⟩ : ∃ g, w1.heap.size = g := ⟨_, rfl⟩
  rw [hg1] at H12 hgl
  rw [hg2] at H2
  rw [hg1, hg2] at hlt
  clear H1 HB1
  go_upto_region 2 with (fail)
  generalize w1.alloc _ = w2 at *
  try rw [hg1]
  try rw [hg2]
  have HG1 := Lib.hid hg1
  clear hg1 hg2
  have H2 := Lib.hid H2
  have H12 := Lib.hid H12
  have q := HH.out _ HB2.out
  go_wp2_with (first
    | (with_reducible refine Hz.val_arm (o := ⟨some 12, .load _ _, _, _, _, _⟩) (by kernel_rfl) (Hz.ex_load_mid (k := 88) (sL s) rfl rfl q (settled_mid s vl) Try.underlying49 rfl (by rw [sL_len]; kernel_rfl)) ?_))
  obtain ⟨S, hS⟩ : ∃ S, (sL s).toArray = S := ⟨_, rfl⟩
  rw [hS]
  have HS : Hid (∀ r, r < 32 → S[r]? = some (Value.int .i64 (s.s r : Int))) := fun r hr => by rw [← hS, List.getElem?_toArray]; exact sL_at s hr
  clear hS q
  go_loopw [4, 5, 13] (fun _ _ i wx => ∃ k : Nat, k ≤ 32 ∧ i = .int .i64 (k : Int) ∧ Hid (Blk (xCells (valsK s k)) 23 g2 wx ∧ Blk (xCells fun _ => 0) 23 g1 wx ∧ BW w wx)) (fun _ _ i _ => 32 - (intOf i).toNat)
  case atStart => exact ⟨0, by omega, rfl, H2.out, H12.out, HB2.out⟩
  case round =>
    obtain ⟨k, hk, rfl, HX⟩ := hrel
    clear H2 H12 HB2
    by_cases hlt2 : k < 32
    · have hltI : (k : Int) < 32 := by omega
      have hck := ok.sl k hlt2
      have ix : ∀ w, (Instr.index 49 (.agg S) (.int .i64 (k : Int))).run Try.prog w = .ok (.int .i64 (s.s k : Int)) w := index_row Try.underlying49 Try.underlying3 rfl (by kernel_rfl) hlt2 (HS.out k hlt2)
      have q1 := ((HH.out _ HX.out.2.2).cell (2 * s.s k)).trans (nCells_v s vl hck)
      have q2 := (HX.out.1.cell k).trans (xCells_at _ hlt2)
      have f2 := HX.out.1.free k
      have HN : Hid (Blk (xCells (valsK s (k + 1))) 23 g2 (wr.setCell ⟨g2, k, none⟩ (.int .u64 (s.v (s.s k)))) ∧ Blk (xCells fun _ => 0) 23 g1 (wr.setCell ⟨g2, k, none⟩ (.int .u64 (s.v (s.s k)))) ∧ BW w (wr.setCell ⟨g2, k, none⟩ (.int .u64 (s.v (s.s k))))) := by
        refine ⟨?_, HX.out.2.1.other (a := ⟨g2, k, none⟩) (by show g1 ≠ g2; omega) _, Below.setCell HX.out.2.2 (by rw [HG1.out]; show g1 ≤ g2; omega) _⟩
        have := HX.out.1.set k (.int .u64 (s.v (s.s k)))
        rw [xCells_set _ hlt2, valsK_next] at this
        exact this
      rw [show 2 * s.s k = s.s k * 2 by omega] at q1
      have hckI : (0 : Int) ≤ (s.s k : Int) ∧ (s.s k : Int) < 44 := by omega
      generalize s.v (s.s k) = v at *
      generalize s.s k = c at *
      generalize valsK s k k = u0 at *
      go_wp2_with (first
        | (with_reducible refine Hz.val_arm (o := ⟨some 16, .index _ _ _, _, _, _, _⟩) (by kernel_rfl) (ex_indexV rfl rfl rfl (ix _)) ?_))
      go_roundw
      case rel => exact ⟨k + 1, by omega, by first | rfl | go_num, HN⟩
      case measure => simp [intOf]; omega
    · obtain rfl : k = 32 := by omega
      obtain ⟨w3, e3, b3, k3⟩ := (Has.of HX.out.2.1 (xCells_size _)).put (P := Try.prog) (xCells (valsK s 32)) (xCells_size _) (xCells_one _) (ty := 23) (by kernel_rfl)
      have HB3 : Hid (BW w w3) := Below.stored HX.out.2.2 k3 (by rw [HG1.out]; exact Nat.le_refl _) (Below.size HX.out.2.2)
      have H2 := HX.out.1
      clear k3
      go_wp2_with (first
        | (with_reducible refine Hz.val_arm (o := ⟨some 27, .load _ _, _, _, _, _⟩) (by kernel_rfl) (Hz.ex_load_all 23 (.tmp 3) rfl rfl H2 Try.underlying23 rfl (by rw [xCells_size]; kernel_rfl)) ?_)
        | (with_reducible refine store_blk (o := ⟨none, .store _ (.tmp 2) (.tmp 27), _, _, _, _⟩) rfl 23 (.tmp 2) (.tmp 27) rfl rfl rfl e3 ?_))
      exact bodyPost_ret (results_blk1 rfl rfl b3 Try.underlying23 rfl (by rw [xCells_size]; kernel_rfl)) rfl ⟨rfl, HB3.out⟩
end Go.Proofs.Ytoahejjeihmiiaa
