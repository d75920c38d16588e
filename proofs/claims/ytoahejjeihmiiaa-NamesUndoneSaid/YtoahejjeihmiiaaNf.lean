/- The document's Cell, Value, Claim. -/
import Derived.Test.YtoahejjeihmiiaaNe
import Derived.Test.YtoahejjeihmiiaaNw
set_option maxRecDepth 100000
set_option linter.unusedVariables false
namespace Go.Proofs.Ytoahejjeihmiiaa
open Go.RowKit

/-- Whose a cell is. -/
def CelR (s : Nst) (c : Int) (D : Array Value) (t : Bool) : Prop :=
  (t = false ∧ D = #[.int .i64 0, .int .i64 0, .int .u64 0, .bool false] ∧ ∀ k ∈ ownN s, (k : Int) ≠ c) ∨ (t = true ∧ ∃ k ∈ ownN s, (k : Int) = c ∧ ∃ a b : Int, D = #[.int .i64 a, .int .i64 b, .int .u64 (s.v k), .bool (s.y k)])
/-- What Cell answers. -/
def RetCel (s : Nst) (c : Int) (w : World) (e : Ending) (w' : World) : Prop := (∃ D t, e = .returned (.tuple #[.agg D, .bool t]) ∧ CelR s c D t) ∧ BW w w'
theorem four_one (a b v : Int) (y : Bool) : ∀ u ∈ (#[Value.int .i64 a, .int .i64 b, .int .u64 v, .bool y] : Array Value).toList, u.oneCell' = true := by
  intro u hu
  simp at hu
  rcases hu with rfl | rfl | rfl | rfl <;> rfl
/-- How the document's claims read, as a walk wants it. -/
def RRd (s : Nst) (A : Option Addr) (x : World) : Prop := 0 < s.l.length → ∃ b off, A = some ⟨b, off, none⟩ ∧ ∀ j, j < s.l.length → x.cell? ⟨b, off + j * 4, none⟩ = some (.int .i64 ((claAt s j).1 : Int)) ∧ x.cell? ⟨b, off + j * 4 + 1, none⟩ = some (.int .i64 ((claAt s j).2 : Int)) ∧ x.cell? ⟨b, off + j * 4 + 2, none⟩ = some (.int .u64 (s.v (claAt s j).2)) ∧ x.cell? ⟨b, off + j * 4 + 3, none⟩ = some (.bool (s.y (claAt s j).2))
theorem RnAt.rrd {s : Nst} {p : Npl} {x : World} (h : RnAt s p x) {A : Option Addr} {cap : Nat} (hv : p.vl = .slice A s.l.length cap) : RRd s A x := fun hl => by
  obtain ⟨b, off, cap', e, _, _⟩ := h.begins hl
  rw [hv] at e
  cases e
  exact ⟨b, off, rfl, fun j hj => h.row_cell hv hj⟩
theorem settled4 (s : Nst) (vl : Value) {r : Nat} (hr : r < 32) : ∀ j v, [Value.int .i64 (r : Int), .int .i64 (s.s r : Int), .int .u64 (s.v (s.s r)), .bool true][j]? = some v → (dCells s vl)[r * 4 + j]? = some v := by
  intro j v hv
  rw [show r * 4 = 4 * r by omega]
  match j, hv with
  | 0, hv => exact (dCells_r s vl hr).trans hv
  | 1, hv => exact (dCells_s s vl hr).trans hv
  | 2, hv => exact (dCells_v s vl hr).trans hv
  | 3, hv => exact (dCells_y s vl hr).trans hv
theorem four_at {x : World} {b off : Nat} {a0 a1 a2 : Int} {a3 : Bool} (h0 : x.cell? ⟨b, off, none⟩ = some (.int .i64 a0)) (h1 : x.cell? ⟨b, off + 1, none⟩ = some (.int .i64 a1)) (h2 : x.cell? ⟨b, off + 2, none⟩ = some (.int .u64 a2)) (h3 : x.cell? ⟨b, off + 3, none⟩ = some (.bool a3)) :
    ∀ j v, [Value.int .i64 a0, .int .i64 a1, .int .u64 a2, .bool a3][j]? = some v → x.cell? ⟨b, off + j, none⟩ = some v := by
  intro j v hv
  match j, hv with
  | 0, hv => exact h0.trans hv
  | 1, hv => exact h1.trans hv
  | 2, hv => exact h2.trans hv
  | 3, hv => exact h3.trans hv
set_option maxHeartbeats 4000000 in
theorem rcell15_c {s : Nst} {p : Npl} {w : World} (h : RnAt s p w) (ok : NOk s) (c : Int) : Calls Try.prog 26 #[.pointer (some ⟨p.g, 0, none⟩), .int .i64 c] w fun e w' => RetCel s c w e w' := by
  have HB1 := Lib.hid (BW.new (Below.refl _ w) (.cells #[.int .i64 0, .int .i64 0, .int .u64 0, .bool false] 33))
  have HH := Lib.hid (fun x (hx : BW w x) => Two.on h hx)
  have hlen := ok.len
  obtain ⟨A, cap, hv, h1, h2, _⟩ := h.row.shape
  obtain ⟨g, hg⟩ : ∃ g, p.g = g := ⟨_, rfl⟩
  have HA := Lib.hid (fun x (hx : BW w x) => RnAt.rrd (HH.out x hx) hv)
  have HQ := Lib.hid (fun x (hx : BW w x) => (hg ▸ hv ▸ RnAt.head_cell (HH.out x hx) : x.cell? ⟨g, 128, none⟩ = some (.slice A s.l.length cap)))
  have HD := Lib.hid (fun x (hx : BW w x) => (hg ▸ (HH.out x hx).head : Blk (dCells s p.vl) 37 g x))
  have HOK := Lib.hid ok
  obtain ⟨L, hL⟩ : ∃ L, s.l.length = L := ⟨_, rfl⟩
  have HL := Lib.hid hL
  rw [hg]
  unfold RRd at HA
  rw [hL] at HA HQ hlen
  have hne : Hid (g < w.heap.size) := by show _ < _; rw [← hg]; exact h.head.lt
  clear h ok hv h1 h2 hg hL HH
  go_enter Try.func26, Try.ntmps26
  go_upto_region 1 with (fail)
  have H1 := Lib.hid (Blk.new #[.int .i64 0, .int .i64 0, .int .u64 0, .bool false] 33 w)
  obtain ⟨b0, hb0⟩ : ∃ b0, w.heap.size = b0 := ⟨_, rfl⟩
  have HW := Lib.hid hb0
  try rw [hb0] at H1
  try rw [hb0]
  clear hb0
  generalize w.alloc _ = w1 at *
  go_wp2
  go_loop [6] (fun i => ∃ k : Nat, k ≤ 32 ∧ i = .int .i64 (k : Int) ∧ Hid (∀ r, r < k → (s.s r : Int) ≠ c)) (fun i => 32 - (intOf i).toNat)
  case atStart => exact ⟨0, by omega, rfl, fun r hr => by omega⟩
  case round =>
    obtain ⟨k, hk, rfl, HX⟩ := hrel
    have hx := HX.out
    clear HX
    by_cases hlt : k < 32
    · have hkI : (0 : Int) ≤ (k : Int) ∧ (k : Int) < 32 := by omega
      have hd := HD.out _ HB1.out
      have q := (hd.cell (4 * k + 1)).trans (dCells_s s p.vl hlt)
      rw [show 4 * k + 1 = k * 4 + 1 by omega] at q
      by_cases hc : (s.s k : Int) = c
      · have HF : Hid (CelR s c #[.int .i64 (k : Int), .int .i64 (s.s k : Int), .int .u64 (s.v (s.s k)), .bool true] true) := .inr ⟨rfl, s.s k, (mem_own _ _).2 (.inl ⟨k, hlt, rfl⟩), hc, _, _, by rw [HOK.out.ys k hlt]⟩
        have ex : ((s.s k : Int) == c) = true := by simpa using hc
        obtain ⟨w3, e3, b3, k3⟩ := (Has.of H1.out rfl).put (P := Try.prog) #[.int .i64 (k : Int), .int .i64 (s.s k : Int), .int .u64 (s.v (s.s k)), .bool true] rfl (four_one _ _ _ _) (ty := 33) (by kernel_rfl)
        have HB3 : Hid (BW w w3) := Below.stored HB1.out k3 (by rw [HW.out]; exact Nat.le_refl _) (Below.size HB1.out)
        have HM := Lib.hid (settled4 s p.vl hlt)
        clear hc hx k3
        generalize s.v (s.s k) = x2 at *
        generalize (s.s k : Int) = x1 at *
        go_wp2_with (first
          | (with_reducible refine Hz.val_arm (o := ⟨some 26, .load _ _, _, _, _, _⟩) (by kernel_rfl) (Hz.ex_load_mid (k := k * 4) [.int .i64 (k : Int), .int .i64 x1, .int .u64 x2, .bool true] rfl rfl hd HM.out Try.underlying33 rfl (by kernel_rfl)) ?_)
          | (with_reducible refine store_blk (o := ⟨none, .store _ (.tmp 4) (.tmp 26), _, _, _, _⟩) rfl 33 (.tmp 4) (.tmp 26) rfl rfl rfl e3 ?_))
        exact bodyPost_ret (results_blk rfl rfl b3 Try.underlying33 rfl (by kernel_rfl)) rfl ⟨⟨_, _, rfl, HF.out⟩, HB3.out⟩
      · have ex : ((s.s k : Int) == c) = false := by simpa using hc
        have HN : Hid (∀ r, r < k + 1 → (s.s r : Int) ≠ c) := fun r hr => by
          by_cases hrk : r = k
          · rw [hrk]; exact hc
          · exact hx r (by omega)
        clear hc hx hd
        generalize (s.s k : Int) = x1 at *
        go_wp2
        go_round
        case rel => exact ⟨k + 1, by omega, by first | rfl | go_num, HN⟩
        case measure => simp [intOf]; omega
    · obtain rfl : k = 32 := by omega
      have HX := Lib.hid hx
      have q8 := HQ.out _ HB1.out
      clear hx
      go_wp2
      go_loop [7] (fun i => ∃ k : Nat, k ≤ L ∧ i = .int .i64 (k : Int) ∧ Hid (∀ j, j < k → ((claAt s j).2 : Int) ≠ c)) (fun i => L - (intOf i).toNat)
      case atStart => exact ⟨0, by omega, rfl, fun j hj => by omega⟩
      case round =>
        obtain ⟨k, hk, rfl, HJ⟩ := hrel
        by_cases hlt2 : k < L
        · have hltI : (k : Int) < (L : Int) := by omega
          obtain ⟨b, off, rfl, hcs⟩ := HA.out _ HB1.out (by omega)
          obtain ⟨c0, c1, c2, c3⟩ := hcs k hlt2
          clear hcs
          by_cases hc : ((claAt s k).2 : Int) = c
          · have HF : Hid (CelR s c #[.int .i64 ((claAt s k).1 : Int), .int .i64 ((claAt s k).2 : Int), .int .u64 (s.v (claAt s k).2), .bool (s.y (claAt s k).2)] true) := by
              refine .inr ⟨rfl, (claAt s k).2, (mem_own _ _).2 (.inr ⟨s.l[k]'(by rw [HL.out]; exact hlt2), List.getElem_mem _, by rw [claAt_eq]⟩), hc, _, _, rfl⟩
            have ex : (((claAt s k).2 : Int) == c) = true := by simpa using hc
            obtain ⟨w3, e3, b3, k3⟩ := (Has.of H1.out rfl).put (P := Try.prog) #[.int .i64 ((claAt s k).1 : Int), .int .i64 ((claAt s k).2 : Int), .int .u64 (s.v (claAt s k).2), .bool (s.y (claAt s k).2)] rfl (four_one _ _ _ _) (ty := 33) (by kernel_rfl)
            have HB3 : Hid (BW w w3) := Below.stored HB1.out k3 (by rw [HW.out]; exact Nat.le_refl _) (Below.size HB1.out)
            have HM := Lib.hid (four_at c0 c1 c2 c3)
            clear hc k3 c0 c2 c3
            generalize s.v (claAt s k).2 = x2 at *
            generalize s.y (claAt s k).2 = x3 at *
            generalize ((claAt s k).1 : Int) = x0 at *
            generalize ((claAt s k).2 : Int) = x1 at *
            go_wp2_with (first
              | (with_reducible refine Hz.val_arm (o := ⟨some 52, .load _ _, _, _, _, _⟩) (by kernel_rfl) (Hz.ex_load_cells [.int .i64 x0, .int .i64 x1, .int .u64 x2, .bool x3] rfl rfl HM.out Try.underlying33 rfl (by kernel_rfl)) ?_)
              | (with_reducible refine store_blk (o := ⟨none, .store _ (.tmp 4) (.tmp 52), _, _, _, _⟩) rfl 33 (.tmp 4) (.tmp 52) rfl rfl rfl e3 ?_))
            exact bodyPost_ret (results_blk rfl rfl b3 Try.underlying33 rfl (by kernel_rfl)) rfl ⟨⟨_, _, rfl, HF.out⟩, HB3.out⟩
          · have ex : (((claAt s k).2 : Int) == c) = false := by simpa using hc
            have HN : Hid (∀ j, j < k + 1 → ((claAt s j).2 : Int) ≠ c) := fun j hj => by
              by_cases hjk : j = k
              · rw [hjk]; exact hc
              · exact HJ.out j (by omega)
            clear hc c0 c2 c3
            generalize ((claAt s k).2 : Int) = x1 at *
            go_wp2
            go_round
            case rel => exact ⟨k + 1, by omega, by first | rfl | go_num, HN⟩
            case measure => simp [intOf]; omega
        · obtain rfl : k = L := by omega
          have HF : Hid (CelR s c #[.int .i64 0, .int .i64 0, .int .u64 0, .bool false] false) := by
            refine .inl ⟨rfl, rfl, fun k hk => ?_⟩
            rcases (mem_own _ _).1 hk with ⟨r, hr, rfl⟩ | ⟨x, hx, rfl⟩
            · exact HX.out r hr
            · obtain ⟨j, hj, rfl⟩ := List.getElem_of_mem hx
              have := HJ.out j (by have := HL.out; omega)
              rw [claAt_eq hj] at this
              exact this
          obtain ⟨w3, e3, b3, k3⟩ := (Has.of H1.out rfl).put (P := Try.prog) #[.int .i64 0, .int .i64 0, .int .u64 0, .bool false] rfl (four_one _ _ _ _) (ty := 33) (by kernel_rfl)
          have HB3 : Hid (BW w w3) := Below.stored HB1.out k3 (by rw [HW.out]; exact Nat.le_refl _) (Below.size HB1.out)
          clear k3
          go_wp2_with (first
            | (with_reducible refine store_blk (o := ⟨none, .store _ (.tmp 4) (.tmp 53), _, _, _, _⟩) rfl 33 (.tmp 4) (.tmp 53) rfl rfl rfl e3 ?_))
          exact bodyPost_ret (results_blk rfl rfl b3 Try.underlying33 rfl (by kernel_rfl)) rfl ⟨⟨_, _, rfl, HF.out⟩, HB3.out⟩
end Go.Proofs.Ytoahejjeihmiiaa
