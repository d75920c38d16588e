/- The document's New, Look, Values. -/
import Derived.Test.YtoahejjeihmiiaaNs
import Derived.Test.YtoahejjeihmiiaaHk
set_option maxRecDepth 100000
set_option linter.unusedVariables false
namespace Go.Proofs.Ytoahejjeihmiiaa
open Go.RowKit

def claAt (s : Nst) (j : Nat) : Nat × Nat := s.l.getD j (0, 0)
theorem claAt_eq {s : Nst} {j : Nat} (h : j < s.l.length) : claAt s j = s.l[j] := by unfold claAt; rw [List.getD_eq_getElem?_getD, List.getElem?_eq_getElem h]; rfl
/-- How the document's claims read. -/
theorem RnAt.begins {s : Nst} {p : Npl} {w : World} (h : RnAt s p w) (hl : 0 < s.l.length) : ∃ b off cap, p.vl = .slice (some ⟨b, off, none⟩) s.l.length cap ∧ s.l.length ≤ cap ∧ b ≠ p.g := by
  obtain ⟨b, off, cap, h1, h2, _, _⟩ := h.row.begins hl
  exact ⟨b, off, cap, h1, h2, fun e => h.apart (by rw [h1, ← e]; rfl)⟩
theorem RnAt.row_cell {s : Nst} {p : Npl} {x : World} (h : RnAt s p x) {b off cap : Nat} (hv : p.vl = .slice (some ⟨b, off, none⟩) s.l.length cap) {j : Nat} (hj : j < s.l.length) : x.cell? ⟨b, off + j * 4, none⟩ = some (.int .i64 ((claAt s j).1 : Int)) ∧ x.cell? ⟨b, off + j * 4 + 1, none⟩ = some (.int .i64 ((claAt s j).2 : Int)) ∧ x.cell? ⟨b, off + j * 4 + 2, none⟩ = some (.int .u64 (s.v (claAt s j).2)) ∧ x.cell? ⟨b, off + j * 4 + 3, none⟩ = some (.bool (s.y (claAt s j).2)) := by
  obtain ⟨b', off', cap', hv2, _, _, _, hc⟩ := RowO.begins h.row (by omega)
  rw [hv] at hv2
  cases hv2
  rw [claAt_eq hj]
  have a0 := hc (j * 4 + 0) _ ((cellsNe_at hj (j := 0) (by omega)).trans rfl)
  have a1 := hc (j * 4 + 1) _ ((cellsNe_at hj (j := 1) (by omega)).trans rfl)
  have a2 := hc (j * 4 + 2) _ ((cellsNe_at hj (j := 2) (by omega)).trans rfl)
  have a3 := hc (j * 4 + 3) _ ((cellsNe_at hj (j := 3) (by omega)).trans rfl)
  rw [Nat.add_zero] at a0
  rw [← Nat.add_assoc] at a1 a2 a3
  exact ⟨a0, a1, a2, a3⟩
theorem RnAt.head_cell {s : Nst} {p : Npl} {x : World} (h : RnAt s p x) : x.cell? ⟨p.g, 128, none⟩ = some p.vl := (h.head.cell 128).trans (dCells_l s p.vl)
/-- A new file of the document's, its first j registers given. -/
def dnCell (x : Nat → Int) (j k : Nat) : Value := if k < 128 then (if k % 4 = 0 then .int .i64 (if k / 4 < j then ((k / 4 : Nat) : Int) else 0) else if k % 4 = 1 then .int .i64 (if k / 4 < j then ((k / 4 : Nat) : Int) else 0) else if k % 4 = 2 then .int .u64 (if k / 4 < j then x (k / 4) else 0) else .bool (decide (k / 4 < j))) else .slice none 0 0
def dnCells (x : Nat → Int) (j : Nat) : Array Value := rowK 129 (dnCell x j)
theorem dn_step {P : Program} {w : World} {x : Nat → Int} {g j : Nat} {t ty : TypeId} (hb : Blk (dnCells x j) t g w) (hz : (P.info? ty).map (·.size) = some 4) (hj : j < 32) {q : Nat} (hq : q = 4 * j) :
    ∃ w', (Instr.storeAt ty (.pointer (some ⟨g, q, none⟩)) (.agg #[.int .i64 (j : Int), .int .i64 (j : Int), .int .u64 (x j), .bool true])).run P w = .ok () w' ∧ Blk (dnCells x (j + 1)) t g w' ∧ w.grownBy w' (some g) := by
  subst hq
  obtain ⟨w', e, b, kk⟩ := Hz.part (P := P) hb (4 * j) [.int .i64 (j : Int), .int .i64 (j : Int), .int .u64 (x j), .bool true] (by rw [dnCells, rowK_size]; show 4 * j + 4 ≤ 129; omega) (by intro v hv; simp at hv; rcases hv with rfl | rfl | rfl | rfl <;> rfl)
  have := rowK_part (n := 129) (f := dnCell x j) (g := dnCell x (j + 1)) (a := 4 * j) (cs := [.int .i64 (j : Int), .int .i64 (j : Int), .int .u64 (x j), .bool true]) (by show 4 * j + 4 ≤ 129; omega) (fun i u hu => ?_) (fun k hk hne => ?_)
  · refine ⟨w', Hz.run_store_part (P := P) hz e, ?_, kk⟩
    unfold dnCells at b ⊢
    rw [this] at b
    exact b
  · unfold dnCell
    match i, hu with
    | 0, hu =>
      rw [if_pos (by omega), if_pos (by omega), if_pos (by omega), show (4 * j + 0) / 4 = j by omega]
      exact Option.some.inj hu
    | 1, hu =>
      rw [if_pos (by omega), if_neg (by omega), if_pos (by omega), if_pos (by omega), show (4 * j + 1) / 4 = j by omega]
      exact Option.some.inj hu
    | 2, hu =>
      rw [if_pos (by omega), if_neg (by omega), if_neg (by omega), if_pos (by omega), if_pos (by omega), show (4 * j + 2) / 4 = j by omega]
      exact Option.some.inj hu
    | 3, hu =>
      rw [if_pos (by omega), if_neg (by omega), if_neg (by omega), if_neg (by omega), decide_eq_true (by omega)]
      exact Option.some.inj hu
  · have hne : k < 4 * j ∨ 4 * j + 4 ≤ k := hne
    unfold dnCell
    by_cases h1 : k < 128
    · have e : (k / 4 < j + 1) = (k / 4 < j) := propext (by omega)
      rw [if_pos h1, if_pos h1]
      simp only [e]
    · rw [if_neg h1, if_neg h1]
theorem dn_end (x : Nat → Int) : (dnCells x 32).setIfInBounds 2 (.int .u64 0) = dCells (newN (updN x 0 0)) (.slice none 0 0) := by
  refine rowK_set (by omega) ?_ fun k hk hne => ?_
  · unfold dCell newN
    dsimp only
    rw [if_pos (by omega), if_neg (by omega), if_neg (by omega), if_pos (by omega), if_pos (by omega)]
    rfl
  · unfold dCell dnCell newN
    dsimp only
    by_cases h1 : k < 128
    · rw [if_pos h1, if_pos h1]
      simp only [show k / 4 < 32 by omega, if_true, decide_true]
      by_cases h2 : k % 4 = 2
      · have : k / 4 ≠ 0 := by omega
        rw [updN_other _ _ _ this]
      · by_cases a : k % 4 = 0
        · rw [if_pos a, if_pos a]
        · by_cases b : k % 4 = 1
          · rw [if_neg a, if_neg a, if_pos b, if_pos b]
          · rw [if_neg a, if_neg a, if_neg b, if_neg b, if_neg h2, if_neg h2]
    · rw [if_neg h1, if_neg h1]
/-- Two blocks, both known whole. -/
def NT (C : Array Value) (T : TypeId) (g : Nat) (D : Array Value) (U : TypeId) (b : Nat) (x : World) : Prop := Blk C T g x ∧ Blk D U b x
set_option maxHeartbeats 4000000 in
theorem rnew15_c (x : Nat → Int) (w : World) : Calls Try.prog 9 #[.agg (xCells x)] w fun e w' => ∃ p, e = .returned (.pointer (some ⟨p.g, 0, none⟩)) ∧ RnAt (newN (updN x 0 0)) p w' ∧ (∀ k ∈ p.foot, w.heap.size ≤ k) ∧ BW w w' := by
  have H1 := Blk.new (xCells x) 23 w
  have B1 := Lib.hid (BW.new (Below.refl _ w) (.cells (xCells x) 23))
  obtain ⟨b, hb⟩ : ∃ b, w.heap.size = b := ⟨_, rfl⟩
  go_enter Try.func9, Try.ntmps9
  go_upto_region 1 with (fail)
  generalize hw1 : w.alloc (.cells (xCells x) 23) = w1 at *
  try rw [hb] at H1
  try rw [hb]
  have HBE := Lib.hid hb
  clear hb hw1
  have H2 := Blk.new (dnCells x 0) 37 w1
  have B2 := Lib.hid (BW.on B1.out (BW.new (Below.refl _ w1) (.cells (dnCells x 0) 37)))
  have H12 := H1.alloc (.cells (dnCells x 0) 37)
  have hlt := H1.lt
  clear H1 B1
  obtain ⟨g, hg⟩ : ∃ g, w1.heap.size = g := ⟨_, rfl⟩
  rw [hg] at H2 hlt
  go_upto_region 2 with (first
    | (refine Hz.val_arm (o := ⟨some 5, .build _ _, _, _, _, _⟩) (v := .agg (dnCells x 0)) (by kernel_rfl) (by kernel_rfl) ?_))
  try rw [hg]
  clear hg
  generalize World.alloc w1 _ = w2 at *
  have HG : Hid (w.heap.size ≤ g ∧ g ≠ b) := by show _ ∧ _; rw [HBE.out]; omega
  have H2 := Lib.hid H2
  have H12 := Lib.hid H12
  clear hlt
  go_wp2
  go_loopw [4] (fun i wx => ∃ k : Nat, k ≤ 32 ∧ i = .int .i64 (k : Int) ∧ Hid (Blk (dnCells x k) 37 g wx ∧ Blk (xCells x) 23 b wx ∧ BW w wx)) (fun i _ => 32 - (intOf i).toNat)
  case atStart => exact ⟨0, by omega, rfl, H2.out, H12.out, B2.out⟩
  case round =>
    obtain ⟨k, hk, rfl, HH⟩ := hrel
    clear H2 H12 B2
    by_cases hlt : k < 32
    · have hltI : (k : Int) < 32 := by omega
      go_wp2_with (fail)
      refine wp_region_P (S := NT (dnCells x k) 37 g (xCells x) 23 b) (c := 11) (by kernel_rfl) ?_
      change wpAnyP _ _ _ _ _ _ _ _ _ (World.drew _)
      have HS : NT (dnCells x k) 37 g (xCells x) 23 b wr.drew := ⟨HH.out.1.drew, HH.out.2.1.drew⟩
      have HBD : Hid (BW w wr.drew) := Below.drew HH.out.2.2
      generalize hdr : World.drew wr = w3 at *
      clear hdr
      refine hp_val (i := 0) (oi := ⟨some 11, .move _, _, _, _, _⟩) [11] (.pointer (some ⟨g, 0, none⟩)) rfl (by kernel_rfl) (by kernel_rfl) (by kernel_rfl) (by kernel_rfl) (by kernel_rfl) rfl (fun _ _ _ h => h) (by kernel_rfl) (fun _ _ => rfl) HS ?_
      simp only [Act.put, List.setIfInBounds_toArray, List.set_cons_zero, List.set_cons_succ]
      refine hp_val (i := 1) (oi := ⟨some 12, .move _, _, _, _, _⟩) [11] (.int .i64 (k : Int)) rfl (by kernel_rfl) (by kernel_rfl) (by kernel_rfl) (by kernel_rfl) (by kernel_rfl) rfl (fun _ _ _ h => h) (by kernel_rfl) (fun _ _ => rfl) HS ?_
      simp only [Act.put, List.setIfInBounds_toArray, List.set_cons_zero, List.set_cons_succ]
      refine hp_val (i := 2) (oi := ⟨some 13, .move _, _, _, _, _⟩) [11] (.int .i64 (k : Int)) rfl (by kernel_rfl) (by kernel_rfl) (by kernel_rfl) (by kernel_rfl) (by kernel_rfl) rfl (fun _ _ _ h => h) (by kernel_rfl) (fun _ _ => rfl) HS ?_
      simp only [Act.put, List.setIfInBounds_toArray, List.set_cons_zero, List.set_cons_succ]
      refine hp_val (i := 3) (oi := ⟨some 14, .move _, _, _, _, _⟩) [11] (.int .i64 (k : Int)) rfl (by kernel_rfl) (by kernel_rfl) (by kernel_rfl) (by kernel_rfl) (by kernel_rfl) rfl (fun _ _ _ h => h) (by kernel_rfl) (fun _ _ => rfl) HS ?_
      simp only [Act.put, List.setIfInBounds_toArray, List.set_cons_zero, List.set_cons_succ]
      refine hp_val (i := 4) (oi := ⟨some 15, .move _, _, _, _, _⟩) [11] (.int .i64 (k : Int)) rfl (by kernel_rfl) (by kernel_rfl) (by kernel_rfl) (by kernel_rfl) (by kernel_rfl) rfl (fun _ _ _ h => h) (by kernel_rfl) (fun _ _ => rfl) HS ?_
      simp only [Act.put, List.setIfInBounds_toArray, List.set_cons_zero, List.set_cons_succ]
      refine hp_val (i := 5) (oi := ⟨some 16, .indexAddr _ _ _, _, _, _, _⟩) [11] (.pointer (some ⟨b, k, none⟩)) rfl (by kernel_rfl) (by kernel_rfl) (by kernel_rfl) (by kernel_rfl) (by kernel_rfl) rfl (fun _ _ _ h => h) (by kernel_rfl) (fun _ _ => Hz.ex_indexA (z := 1) rfl rfl rfl rfl hlt Try.underlying23 (by kernel_rfl) (by omega)) HS ?_
      simp only [Act.put, List.setIfInBounds_toArray, List.set_cons_zero, List.set_cons_succ]
      refine hp_val (i := 6) (oi := ⟨some 17, .load _ _, _, _, _, _⟩) [11] (.int .u64 (x k)) rfl (by kernel_rfl) (by kernel_rfl) (by kernel_rfl) (by kernel_rfl) (by kernel_rfl) rfl (fun _ _ _ h => h) (by kernel_rfl) (fun y hy => ex_load rfl rfl ((hy.2.cell k).trans (xCells_at _ hlt)) (by kernel_rfl)) HS ?_
      simp only [Act.put, List.setIfInBounds_toArray, List.set_cons_zero, List.set_cons_succ]
      refine hp_val (i := 7) (oi := ⟨some 18, .build _ _, _, _, _, _⟩) [11] (.agg #[.int .i64 (k : Int), .int .i64 (k : Int), .int .u64 (x k), .bool true]) rfl (by kernel_rfl) (by kernel_rfl) (by kernel_rfl) (by kernel_rfl) (by kernel_rfl) rfl (fun _ _ _ h => h) (by kernel_rfl) (fun _ _ => by kernel_rfl) HS ?_
      simp only [Act.put, List.setIfInBounds_toArray, List.set_cons_zero, List.set_cons_succ]
      refine hp_val (i := 8) (oi := ⟨some 19, .nilCheck _, _, _, _, _⟩) [9, 10, 11] (.pointer (some ⟨g, 0, none⟩)) rfl (by kernel_rfl) (by kernel_rfl) (by kernel_rfl) (by kernel_rfl) (by kernel_rfl) rfl (fun _ _ _ h => h) (by kernel_rfl) (fun _ _ => rfl) HS ?_
      simp only [Act.put, List.setIfInBounds_toArray, List.set_cons_zero, List.set_cons_succ]
      refine hp_val (i := 9) (oi := ⟨some 20, .fieldAddr _ _ _, _, _, _, _⟩) [10, 11] (.pointer (some ⟨g, 0, none⟩)) rfl (by kernel_rfl) (by kernel_rfl) (by kernel_rfl) (by kernel_rfl) (by kernel_rfl) rfl (fun _ _ _ h => h) (by kernel_rfl) (fun _ _ => by kernel_rfl) HS ?_
      simp only [Act.put, List.setIfInBounds_toArray, List.set_cons_zero, List.set_cons_succ]
      refine hp_val (i := 10) (oi := ⟨some 21, .indexAddr _ _ _, _, _, _, _⟩) [11] (.pointer (some ⟨g, 4 * k, none⟩)) rfl (by kernel_rfl) (by kernel_rfl) (by kernel_rfl) (by kernel_rfl) (by kernel_rfl) rfl (fun _ _ _ h => h) (by kernel_rfl) (fun _ _ => Hz.ex_indexA (z := 4) rfl rfl rfl rfl hlt Try.underlying34 (by kernel_rfl) (by omega)) HS ?_
      simp only [Act.put, List.setIfInBounds_toArray, List.set_cons_zero, List.set_cons_succ]
      refine hp_last (i := 11) (oi := ⟨none, .store _ _ _, _, _, _, _⟩) (by kernel_rfl) rfl (by kernel_rfl) (by kernel_rfl) ?_
      obtain ⟨w5, e5, b5, k5⟩ := dn_step (P := Try.prog) (ty := 33) HS.1 (by kernel_rfl) hlt rfl
      refine wp_store_cell rfl rfl rfl rfl e5 ?_
      refine wpAnyH_done (by kernel_rfl) ?_ _
      have HN : Hid (Blk (dnCells x (k + 1)) 37 g w5 ∧ Blk (xCells x) 23 b w5 ∧ BW w w5) := ⟨b5, HS.2.far k5 (Ne.symm HG.out.2), Below.stored HBD.out k5 HG.out.1 (Below.size HBD.out)⟩
      clear HS HBD b5 k5 e5
      go_wp2
      go_roundw
      case rel => exact ⟨k + 1, by omega, by first | rfl | go_num, HN⟩
      case measure => simp [intOf]; omega
    · obtain rfl : k = 32 := by omega
      have q2 : wr.cell? ⟨g, 2, none⟩ = some (.int .u64 (x 0)) := (HH.out.1.cell 2).trans (rowK_at _ (by omega))
      have f2 := HH.out.1.free 2
      have b3 := HH.out.1.set 2 (.int .u64 0)
      rw [dn_end] at b3
      have HV := Lib.hid b3
      have HB3 : Hid (BW w (wr.setCell ⟨g, 2, none⟩ (.int .u64 0))) := Below.setCell HH.out.2.2 HG.out.1 _
      clear b3
      go_wp2
      go_ret
      refine ⟨⟨g, .slice none 0 0⟩, rfl, ⟨HV.out, RowO.nil _ _ _, by simp [Value.ownBlock]⟩, ?_, HB3.out⟩
      intro i hi
      rw [show i = g by simpa [Npl.foot, Value.ownBlock] using hi]
      exact HG.out.1
theorem rlook15_out (g : Nat) (r : Int) (hr : ¬ (0 ≤ r ∧ r < 32)) (w : World) : Calls Try.prog 20 #[.pointer (some ⟨g, 0, none⟩), .int .i64 r] w fun e w' => e = .returned (.int .i64 0) ∧ w = w' := by
  by_cases h0 : r < 0
  · clear hr
    go_enter Try.func20, Try.ntmps20
    go_wp2
    go_ret
    exact ⟨rfl, rfl⟩
  · have hge : (31 : Int) < r := by omega
    clear hr
    go_enter Try.func20, Try.ntmps20
    go_wp2
    go_ret
    exact ⟨rfl, rfl⟩
/-- A register's cell by the first k claims. -/
def lkT (s : Nst) (r k : Nat) : Nat := (s.l.take k).foldl (fun c x => if x.1 = r then x.2 else c) (s.s r)
theorem lkT_next (s : Nst) (r : Nat) {k : Nat} (hk : k < s.l.length) : lkT s r (k + 1) = if (claAt s k).1 = r then (claAt s k).2 else lkT s r k := by
  unfold lkT
  rw [List.take_succ_eq_append_getElem hk, List.foldl_append, claAt_eq hk]
  rfl
theorem lkT_end (s : Nst) (r : Nat) : lkT s r s.l.length = lkN s r := by unfold lkT lkN; rw [List.take_length]
set_option maxHeartbeats 2000000 in
theorem rlook15_c {s : Nst} {p : Npl} {w : World} (h : RnAt s p w) (ok : NOk s) (r : Int) : Calls Try.prog 20 #[.pointer (some ⟨p.g, 0, none⟩), .int .i64 r] w fun e w' => e = .returned (.int .i64 (lookN s r)) ∧ w = w' := by
  by_cases hr : 0 ≤ r ∧ r < 32
  · obtain ⟨q, rfl⟩ : ∃ q : Nat, r = (q : Int) := ⟨r.toNat, by omega⟩
    have hq : q < 32 := by omega
    have hqI : (0 : Int) ≤ (q : Int) ∧ (q : Int) < 32 := hr
    have d1 : decide ((q : Int) < 0) = false := decide_eq_false (by omega)
    have d2 : decide ((31 : Int) < (q : Int)) = false := decide_eq_false (by omega)
    have hlk : lookN s (q : Int) = (lkN s q : Int) := by unfold lookN; rw [if_pos hr]; rfl
    rw [hlk]
    have hlen := ok.len
    have qs := (h.head.cell (4 * q + 1)).trans (dCells_s s p.vl hq)
    rw [show 4 * q + 1 = q * 4 + 1 by omega] at qs
    obtain ⟨A, cap, hv, h1, h2, _⟩ := h.row.shape
    have ql := h.head_cell
    rw [hv] at ql
    have HR := Lib.hid (fun (hl : 0 < s.l.length) => (by obtain ⟨b, off, cap', e, _, _⟩ := h.begins hl; rw [hv] at e; cases e; exact ⟨b, off, rfl, fun j hj => h.row_cell hv hj⟩ : ∃ b off, A = some ⟨b, off, none⟩ ∧ ∀ j, j < s.l.length → w.cell? ⟨b, off + j * 4, none⟩ = some (.int .i64 ((claAt s j).1 : Int)) ∧ w.cell? ⟨b, off + j * 4 + 1, none⟩ = some (.int .i64 ((claAt s j).2 : Int)) ∧ w.cell? ⟨b, off + j * 4 + 2, none⟩ = some (.int .u64 (s.v (claAt s j).2)) ∧ w.cell? ⟨b, off + j * 4 + 3, none⟩ = some (.bool (s.y (claAt s j).2))))
    have HNX := Lib.hid (fun k (hk : k < s.l.length) => lkT_next s q hk)
    have HE := Lib.hid (lkT_end s q)
    have H0 : Hid (lkT s q 0 = s.s q) := rfl
    obtain ⟨L, hL⟩ : ∃ L, s.l.length = L := ⟨_, rfl⟩
    rw [hL] at ql HR HNX HE hlen
    generalize p.g = g at *
    clear h hv ok hlk hr hL h1 h2
    go_enter Try.func20, Try.ntmps20
    go_wp2
    go_loop [5, 6] (fun c i => ∃ k : Nat, k ≤ L ∧ i = .int .i64 (k : Int) ∧ c = .int .i64 (lkT s q k : Int)) (fun _ i => L - (intOf i).toNat)
    case atStart => exact ⟨0, by omega, rfl, by rw [H0.out]⟩
    case round =>
      obtain ⟨k, hk, rfl, rfl⟩ := hrel
      clear qs
      by_cases hlt : k < L
      · have hltI : (k : Int) < (L : Int) := by omega
        obtain ⟨b, off, rfl, hcs⟩ := HR.out (by omega)
        obtain ⟨c0, c1, _, _⟩ := hcs k hlt
        have HN := Lib.hid (HNX.out k hlt)
        clear hcs
        by_cases hx : (claAt s k).1 = q
        · have ex : (((claAt s k).1 : Int) == (q : Int)) = true := by simp; omega
          have HN2 : Hid (lkT s q (k + 1) = (claAt s k).2) := HN.out.trans (if_pos hx)
          clear hx HN
          generalize lkT s q k = u0 at *
          generalize ((claAt s k).1 : Int) = x0 at *
          generalize (claAt s k).2 = x1 at *
          go_wp2
          go_round
          case rel => exact ⟨k + 1, by omega, by first | rfl | go_num, by rw [HN2.out]⟩
          case measure => simp [intOf]; omega
        · have ex : (((claAt s k).1 : Int) == (q : Int)) = false := by simp; omega
          have HN2 : Hid (lkT s q (k + 1) = lkT s q k) := HN.out.trans (if_neg hx)
          clear hx HN
          generalize ((claAt s k).1 : Int) = x0 at *
          generalize (claAt s k).2 = x1 at *
          go_wp2
          go_round
          case rel => exact ⟨k + 1, by omega, by first | rfl | go_num, by rw [HN2.out]⟩
          case measure => simp [intOf]; omega
      · obtain rfl : k = L := by omega
        rw [HE.out]
        go_wp2
        go_ret
        exact ⟨rfl, rfl⟩
  · have hv : lookN s r = 0 := by unfold lookN; rw [if_neg hr]
    rw [hv]
    exact rlook15_out p.g r hr w
set_option maxHeartbeats 4000000 in
theorem rvalues15_c {s : Nst} {p : Npl} {w : World} (h : RnAt s p w) : Calls Try.prog 22 #[.pointer (some ⟨p.g, 0, none⟩)] w fun e w' => e = .returned (.agg (xCells (valsN s))) ∧ BW w w' := by
  have HB1 := Lib.hid (BW.new (Below.refl _ w) (.cells #[.int .u64 0, .int .u64 0, .int .u64 0, .int .u64 0, .int .u64 0, .int .u64 0, .int .u64 0, .int .u64 0, .int .u64 0, .int .u64 0, .int .u64 0, .int .u64 0, .int .u64 0, .int .u64 0, .int .u64 0, .int .u64 0, .int .u64 0, .int .u64 0, .int .u64 0, .int .u64 0, .int .u64 0, .int .u64 0, .int .u64 0, .int .u64 0, .int .u64 0, .int .u64 0, .int .u64 0, .int .u64 0, .int .u64 0, .int .u64 0, .int .u64 0, .int .u64 0] 23))
  have HH := Lib.hid (fun x (hx : BW w x) => h.head.on hx)
  have hgl : p.g < w.heap.size := h.head.lt
  generalize p.vl = vl at *
  generalize p.g = g at *
  clear h
  go_enter Try.func22, Try.ntmps22
  go_upto_region 1 with (fail)
  have H1 := zero_arr w
  generalize w.alloc _ = w1 at *
  have H2 : Blk (xCells (valsK s 0)) _ _ _ := zero_arr w1
  have HB2 := Lib.hid (BW.on HB1.out (BW.new (Below.refl _ w1) (.cells #[.int .u64 0, .int .u64 0, .int .u64 0, .int .u64 0, .int .u64 0, .int .u64 0, .int .u64 0, .int .u64 0, .int .u64 0, .int .u64 0, .int .u64 0, .int .u64 0, .int .u64 0, .int .u64 0, .int .u64 0, .int .u64 0, .int .u64 0, .int .u64 0, .int .u64 0, .int .u64 0, .int .u64 0, .int .u64 0, .int .u64 0, .int .u64 0, .int .u64 0, .int .u64 0, .int .u64 0, .int .u64 0, .int .u64 0, .int .u64 0, .int .u64 0, .int .u64 0] 23)))
  have H12 := H1.alloc (.cells #[.int .u64 0, .int .u64 0, .int .u64 0, .int .u64 0, .int .u64 0, .int .u64 0, .int .u64 0, .int .u64 0, .int .u64 0, .int .u64 0, .int .u64 0, .int .u64 0, .int .u64 0, .int .u64 0, .int .u64 0, .int .u64 0, .int .u64 0, .int .u64 0, .int .u64 0, .int .u64 0, .int .u64 0, .int .u64 0, .int .u64 0, .int .u64 0, .int .u64 0, .int .u64 0, .int .u64 0, .int .u64 0, .int .u64 0, .int .u64 0, .int .u64 0, .int .u64 0] 23)
  have hlt : w.heap.size < w1.heap.size := H1.lt
  obtain ⟨g1, hg1⟩ : ∃ g, w.heap.size = g := ⟨_, rfl⟩
  obtain ⟨g2, hg2⟩ : ∃ g, w1.heap.size = g := ⟨_, rfl⟩
  rw [hg1] at H12 hgl
  rw [hg2] at H2
  rw [hg1, hg2] at hlt
  clear H1 HB1
  go_upto_region 2 with (fail)
  generalize w1.alloc _ = w2 at *
  try rw [hg1]
  try rw [hg2]
  have HG1 := Lib.hid hg1
  clear hg1 hg2
  have H2 := Lib.hid H2
  have H12 := Lib.hid H12
  go_wp2
  go_loopw [4] (fun i wx => ∃ k : Nat, k ≤ 32 ∧ i = .int .i64 (k : Int) ∧ Hid (Blk (xCells (valsK s k)) 23 g2 wx ∧ Blk (xCells fun _ => 0) 23 g1 wx ∧ BW w wx)) (fun i _ => 32 - (intOf i).toNat)
  case atStart => exact ⟨0, by omega, rfl, H2.out, H12.out, HB2.out⟩
  case round =>
    obtain ⟨k, hk, rfl, HX⟩ := hrel
    clear H2 H12 HB2
    by_cases hlt2 : k < 32
    · have hltI : (0 : Int) ≤ (k : Int) ∧ (k : Int) < 32 := by omega
      have q1 := ((HH.out _ HX.out.2.2).cell (4 * k + 2)).trans (dCells_v s vl hlt2)
      have q2 := (HX.out.1.cell k).trans (xCells_at _ hlt2)
      have f2 := HX.out.1.free k
      have HN : Hid (Blk (xCells (valsK s (k + 1))) 23 g2 (wr.setCell ⟨g2, k, none⟩ (.int .u64 (s.v (s.s k)))) ∧ Blk (xCells fun _ => 0) 23 g1 (wr.setCell ⟨g2, k, none⟩ (.int .u64 (s.v (s.s k)))) ∧ BW w (wr.setCell ⟨g2, k, none⟩ (.int .u64 (s.v (s.s k))))) := by
        refine ⟨?_, HX.out.2.1.other (a := ⟨g2, k, none⟩) (by show g1 ≠ g2; omega) _, Below.setCell HX.out.2.2 (by rw [HG1.out]; show g1 ≤ g2; omega) _⟩
        have := HX.out.1.set k (.int .u64 (s.v (s.s k)))
        rw [xCells_set _ hlt2, valsK_next] at this
        exact this
      rw [show 4 * k + 2 = k * 4 + 2 by omega] at q1
      generalize s.v (s.s k) = v at *
      generalize valsK s k k = u0 at *
      go_wp2
      go_roundw
      case rel => exact ⟨k + 1, by omega, by first | rfl | go_num, HN⟩
      case measure => simp [intOf]; omega
    · obtain rfl : k = 32 := by omega
      obtain ⟨w3, e3, b3, k3⟩ := (Has.of HX.out.2.1 (xCells_size _)).put (P := Try.prog) (xCells (valsK s 32)) (xCells_size _) (xCells_one _) (ty := 23) (by kernel_rfl)
      have HB3 : Hid (BW w w3) := Below.stored HX.out.2.2 k3 (by rw [HG1.out]; exact Nat.le_refl _) (Below.size HX.out.2.2)
      have H2 := HX.out.1
      clear k3
      go_wp2_with (first
        | (with_reducible refine Hz.val_arm (o := ⟨some 18, .load _ _, _, _, _, _⟩) (by kernel_rfl) (Hz.ex_load_all 23 (.tmp 3) rfl rfl H2 Try.underlying23 rfl (by rw [xCells_size]; kernel_rfl)) ?_)
        | (with_reducible refine store_blk (o := ⟨none, .store _ (.tmp 2) (.tmp 18), _, _, _, _⟩) rfl 23 (.tmp 2) (.tmp 18) rfl rfl rfl e3 ?_))
      exact bodyPost_ret (results_blk1 rfl rfl b3 Try.underlying23 rfl (by rw [xCells_size]; kernel_rfl)) rfl ⟨rfl, HB3.out⟩
end Go.Proofs.Ytoahejjeihmiiaa
