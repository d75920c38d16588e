/- Package names: Look as it is told; free. -/
import Derived.Test.YtoahejjeihmiiaaNu
import Derived.WalkKit
import Derived.LoopTactic
set_option maxRecDepth 100000
set_option linter.unusedVariables false
namespace Go.Proofs.Ytoahejjeihmiiaa
open Go.RowKit

def clAt (s : Nst) (j : Nat) : Nat × Nat := s.l.getD j (0, 0)
theorem clAt_eq {s : Nst} {j : Nat} (h : j < s.l.length) : clAt s j = s.l[j] := by unfold clAt; rw [List.getD_eq_getElem?_getD, List.getElem?_eq_getElem h]; rfl
/-- How the program's claims read. -/
theorem NAt.reads {s : Nst} {p : Npl} {w : World} (h : NAt s p w) : ∃ A cap, p.vl = .slice A s.l.length cap ∧ s.l.length ≤ cap ∧ cap ≤ maxLen ∧ (0 < s.l.length → ∃ b off, A = some ⟨b, off, none⟩ ∧ b < w.heap.size ∧ b ≠ p.g ∧ ∀ j, j < s.l.length → w.cell? ⟨b, off + j * 2, none⟩ = some (.int .i64 ((clAt s j).1 : Int)) ∧ w.cell? ⟨b, off + j * 2 + 1, none⟩ = some (.int .i64 ((clAt s j).2 : Int))) := by
  obtain ⟨A, cap, hv, h1, h2, h3, h4⟩ := h.row.shape
  refine ⟨A, cap, hv, h1, h2, fun hl => ?_⟩
  obtain ⟨b, off, c, hv2, _, _, hb, hc⟩ := h.row.begins hl
  rw [hv] at hv2
  injection hv2 with e1 e2 e3
  have hne : b ≠ p.g := fun e => h.apart (by rw [hv, e1, ← e]; rfl)
  refine ⟨b, off, e1, hb, hne, fun j hj => ?_⟩
  rw [clAt_eq hj]
  have a0 := hc (j * 2 + 0) _ ((cellsNc_at hj (j := 0) (by omega)).trans rfl)
  have a1 := hc (j * 2 + 1) _ ((cellsNc_at hj (j := 1) (by omega)).trans rfl)
  rw [Nat.add_zero] at a0
  rw [← Nat.add_assoc] at a1
  exact ⟨a0, a1⟩
theorem look15_nil (r : Int) (w : World) : Calls Try.prog 19 #[.pointer none, .int .i64 r] w fun e w' => e = .returned (.int .i64 0) ∧ BW w w' := by
  have h1 : BW w (w.alloc (.cells #[.int .i64 r] 3)) := BW.new (Below.refl _ _) _
  have h2 := Lib.hid (BW.on h1 (BW.new (Below.refl _ _) (.cells #[.int .i64 0] 3)))
  have h3 := h2
  have k3 := Blk.new #[.int .i64 0] 3 (w.alloc (.cells #[.int .i64 r] 3))
  have hs1 : (w.alloc (.cells #[.int .i64 r] 3)).heap.size = w.heap.size + 1 := by simp
  rw [hs1] at k3
  have HC := Lib.hid (k3.cell 0)
  clear h1 k3 hs1 h2
  go_enter Try.func19, Try.ntmps19
  go_wp2
  exact bodyPost_ret (results_cell1 rfl rfl (run_loadVar_int Try.underlying3 HC.out)) rfl ⟨rfl, h3.out⟩
theorem look15_out (g : Nat) (r : Int) (hr : ¬ (0 ≤ r ∧ r < 32)) (w : World) : Calls Try.prog 19 #[.pointer (some ⟨g, 0, none⟩), .int .i64 r] w fun e w' => e = .returned (.int .i64 0) ∧ BW w w' := by
  have h1 : BW w (w.alloc (.cells #[.int .i64 r] 3)) := BW.new (Below.refl _ _) _
  have h2 := Lib.hid (BW.on h1 (BW.new (Below.refl _ _) (.cells #[.int .i64 0] 3)))
  have h3 := h2
  have k3 := Blk.new #[.int .i64 0] 3 (w.alloc (.cells #[.int .i64 r] 3))
  have hs1 : (w.alloc (.cells #[.int .i64 r] 3)).heap.size = w.heap.size + 1 := by simp
  rw [hs1] at k3
  have HC := Lib.hid (k3.cell 0)
  clear h1 k3 hs1 h2
  by_cases h0 : r < 0
  · clear hr
    go_enter Try.func19, Try.ntmps19
    go_wp2
    exact bodyPost_ret (results_cell1 rfl rfl (run_loadVar_int Try.underlying3 HC.out)) rfl ⟨rfl, h3.out⟩
  · have hge : (32 : Int) ≤ r := by omega
    clear hr
    go_enter Try.func19, Try.ntmps19
    go_wp2
    exact bodyPost_ret (results_cell1 rfl rfl (run_loadVar_int Try.underlying3 HC.out)) rfl ⟨rfl, h3.out⟩
theorem look15_c {s : Nst} {p : Npl} {w : World} (h : NAt s p w) (ok : NOk s) (r : Int) : Calls Try.prog 19 #[.pointer (some ⟨p.g, 0, none⟩), .int .i64 r] w fun e w' => e = .returned (.int .i64 (lookN s r)) ∧ BW w w' := by
  by_cases hr : 0 ≤ r ∧ r < 32
  · obtain ⟨k, rfl⟩ : ∃ k : Nat, r = (k : Int) := ⟨r.toNat, by omega⟩
    have hk : k < 32 := by omega
    obtain ⟨A, cap, hv, h1, h2, h3⟩ := h.reads
    have hl := ok.len
    refine (look_core p.g s.l.length cap A (fun j => ((clAt s j).1 : Int)) (fun j => ((clAt s j).2 : Int)) k (s.s k : Int) w (by omega) hk h.head.lt (fun X hX => ?_) (fun h0 => ?_)).mono ?_
    · have hh := h.head.on hX
      exact ⟨by rw [hh.cell, nCells_l, hv], by rw [hh.cell, nCells_s _ _ hk]⟩
    · obtain ⟨b, off, e1, e2, _, e3⟩ := h3 h0
      exact ⟨b, off, e1, e2, e3⟩
    · rintro e w' ⟨⟨c, rfl, hc⟩, hb⟩
      refine ⟨?_, hb⟩
      have hlk : lookN s (k : Int) = (lkN s k : Int) := by unfold lookN; rw [if_pos hr]; rfl
      rw [hlk]
      rcases hc with ⟨rfl, hn⟩ | ⟨j, hj, rfl, hj1, hj2⟩
      · rw [lk_none s (fun i hi => by have := hn i hi; rw [clAt_eq hi] at this; omega)]
      · rw [clAt_eq hj] at hj1 ⊢
        rw [lk_last s hj (by omega) (fun i hi hji => by have := hj2 i hji hi; rw [clAt_eq hi] at this; omega)]
  · have hv : lookN s r = 0 := by unfold lookN; rw [if_neg hr]
    rw [hv]
    exact look15_out p.g r hr w
set_option maxHeartbeats 4000000 in
theorem free15_c {s : Nst} {p : Npl} {w : World} (h : NAt s p w) (ok : NOk s) : Calls Try.prog 25 #[.pointer (some ⟨p.g, 0, none⟩)] w fun e w' => (∃ c b, e = .returned (.tuple #[.int .i64 c, .bool b]) ∧ ((b = false ∧ c = 0 ∧ freN s = none) ∨ ∃ k : Nat, b = true ∧ c = (k : Int) ∧ freN s = some k)) ∧ BW w w' := by
  obtain ⟨A, cap, hv, h1, h2, h3⟩ := h.reads
  have HH := Lib.hid (fun x (hx : BW w x) => h.head.on hx)
  have HA := Lib.hid h3
  have HLN := Lib.hid ok.len
  rw [hv] at HH
  have hLb := HLN.out
  obtain ⟨L, hL⟩ : ∃ L, s.l.length = L := ⟨_, rfl⟩
  rw [hL] at HH HA hLb h1
  have HL := Lib.hid hL
  generalize p.g = g at *
  clear h ok hv h3 hL
  go_enter Try.func25, Try.ntmps25
  go_wp2
  go_step3
  go_wp2
  go_step3
  go_wp2
  go_loopg [4, 6, 8, 9] 44 (fun gg v4 v6 v8 v9 wr => ∃ k : Nat, v9 = .int .i64 (k : Int) ∧ k + gg = 44 ∧ Hid (BW w wr ∧ ∀ d, d < k → d ∈ ownN s))
  case atStart => exact ⟨0, rfl, by omega, Below.refl _ _, fun d hd => by omega⟩
  case round =>
    obtain ⟨k, rfl, hk, HX⟩ := hrel
    obtain ⟨wi, rfl⟩ : ∃ wi : World, wi = wr := ⟨_, rfl⟩
    obtain ⟨gK, rfl⟩ : ∃ x, x = gk := ⟨_, rfl⟩
    by_cases hlt : k < 44
    · have hkI : (k : Int) < 44 := by omega
      have q := HH.out _ HX.out.1
      have HNEXT : Hid (k ∈ ownN s → ∀ d, d < k + 1 → d ∈ ownN s) := fun hin d hd => by
        by_cases hdk : d = k
        · rw [hdk]; exact hin
        · exact HX.out.2 d (by omega)
      go_wp2_with (first
        | (with_reducible refine Hz.val_arm (o := ⟨some 15, .load _ _, _, _, _, _⟩) (by kernel_rfl) (Hz.ex_load_mid (k := 88) (sL s) rfl rfl q (settled_mid s _) Try.underlying49 rfl (by rw [sL_len]; kernel_rfl)) ?_))
      obtain ⟨S, hS⟩ : ∃ S, (sL s).toArray = S := ⟨_, rfl⟩
      rw [hS]
      have HS : Hid (∀ r, r < 32 → S[r]? = some (Value.int .i64 (s.s r : Int))) := fun r hr => by rw [← hS, List.getElem?_toArray]; exact sL_at s hr
      have q5 := (q.cell 120).trans (nCells_l _ _)
      clear hS q
      go_loopg [6, 16] 32 (fun hh v6 v16 wr => ∃ j : Nat, v16 = .int .i64 (j : Int) ∧ j + hh = 32 ∧ wi = wr ∧ Hid (∀ i, i < j → s.s i ≠ k))
      case atStart => exact ⟨0, rfl, by omega, rfl, fun i hi => by omega⟩
      case round =>
        obtain ⟨j, rfl, hj, rfl, HJ⟩ := hrel
        by_cases hjlt : j < 32
        · have hjI : (j : Int) < 32 := by omega
          have ix : ∀ w, (Instr.index 49 (.agg S) (.int .i64 (j : Int))).run Try.prog w = .ok (.int .i64 (s.s j : Int)) w := index_row Try.underlying49 Try.underlying3 rfl (by kernel_rfl) hjlt (HS.out j hjlt)
          by_cases hjk : s.s j = k
          · have HN : Hid (∀ d, d < k + 1 → d ∈ ownN s) := HNEXT.out ((mem_own _ _).2 (.inl ⟨j, hjlt, hjk⟩))
            have ej : ((s.s j : Int) == (k : Int)) = true := by simp; omega
            clear hjk
            generalize (s.s j : Int) = c at *
            go_wp2_with (first
              | (with_reducible refine Hz.val_arm (o := ⟨some 18, .index _ _ _, _, _, _, _⟩) (by kernel_rfl) (ex_indexV rfl rfl rfl (ix _)) ?_))
            go_roundg (44 - (k + 1))
            case measure => omega
            case rel => exact ⟨k + 1, by go_num, by omega, HX.out.1, HN.out⟩
          · have HN : Hid (∀ i, i < j + 1 → s.s i ≠ k) := fun i hi => by
              by_cases hij : i = j
              · rw [hij]; exact hjk
              · exact HJ.out i (by omega)
            have ej : ((s.s j : Int) == (k : Int)) = false := by simp; omega
            clear hjk
            generalize (s.s j : Int) = c at *
            go_wp2_with (first
              | (with_reducible refine Hz.val_arm (o := ⟨some 18, .index _ _ _, _, _, _, _⟩) (by kernel_rfl) (ex_indexV rfl rfl rfl (ix _)) ?_))
            go_roundg (32 - (j + 1))
            case measure => omega
            case rel => exact ⟨j + 1, by go_num, by omega, rfl, HN⟩
        · obtain rfl : j = 32 := by omega
          go_wp2
          go_loopg [8, 28] L (fun hh v8 v28 wr => ∃ j : Nat, v28 = .int .i64 (j : Int) ∧ j + hh = L ∧ Hid (BW w wr ∧ ∀ i, i < j → (clAt s i).2 ≠ k))
          case atStart => exact ⟨0, rfl, by omega, HX.out.1, fun i hi => by omega⟩
          case round =>
            obtain ⟨i, rfl, hi, HI⟩ := hrel
            obtain ⟨w5, rfl⟩ : ∃ x : World, x = wr := ⟨_, rfl⟩
            by_cases hilt : i < L
            · have hiI : (i : Int) < (L : Int) := by omega
              obtain ⟨b, off, rfl, hb, _, hcs⟩ := HA.out (by omega)
              obtain ⟨e0, e1⟩ := hcs i hilt
              have c0 := (HI.out.1.cell (p := ⟨b, off + i * 2, none⟩) hb).trans e0
              have c1 := (HI.out.1.cell (p := ⟨b, off + i * 2 + 1, none⟩) hb).trans e1
              have HB : Hid (BW w (w5.alloc (.cells #[.int .i64 ((clAt s i).1 : Int), .int .i64 ((clAt s i).2 : Int)] 61))) := BW.on HI.out.1 (BW.new (Below.refl _ _) _)
              clear e0 e1 hcs
              by_cases hik : (clAt s i).2 = k
              · have HN : Hid (∀ d, d < k + 1 → d ∈ ownN s) := HNEXT.out ((mem_own _ _).2 (.inr ⟨s.l[i]'(by rw [HL.out]; exact hilt), List.getElem_mem _, by rw [← clAt_eq]; exact hik⟩))
                have ej : (((clAt s i).2 : Int) == (k : Int)) = true := by simp; omega
                clear hik
                generalize ((clAt s i).1 : Int) = c1 at *
                generalize ((clAt s i).2 : Int) = c2 at *
                go_wp2
                go_roundg (44 - (k + 1))
                case measure => omega
                case rel => exact ⟨k + 1, by go_num, by omega, HB.out, HN.out⟩
              · have HN : Hid (∀ q, q < i + 1 → (clAt s q).2 ≠ k) := fun q hq => by
                  by_cases hqi : q = i
                  · rw [hqi]; exact hik
                  · exact HI.out.2 q (by omega)
                have ej : (((clAt s i).2 : Int) == (k : Int)) = false := by simp; omega
                clear hik
                generalize ((clAt s i).1 : Int) = c1 at *
                generalize ((clAt s i).2 : Int) = c2 at *
                go_wp2
                go_roundg (L - (i + 1))
                case measure => omega
                case rel => exact ⟨i + 1, by go_num, by omega, HB.out, HN.out⟩
            · have HF : Hid (freN s = some k) := by
                refine fre_is hlt (fun hin => ?_) HX.out.2
                rcases (mem_own _ _).1 hin with ⟨r, hr, e⟩ | ⟨x, hx, e⟩
                · exact HJ.out r hr e
                · obtain ⟨q, hq, rfl⟩ := List.getElem_of_mem hx
                  have hq2 := hq
                  rw [HL.out] at hq2
                  exact HI.out.2 q (by omega) (by rw [clAt_eq hq]; exact e)
              obtain rfl : i = L := by omega
              go_wp2
              try rw [Exit.noGoto_ret]
              go_ret2
              exact ⟨⟨_, _, rfl, .inr ⟨k, rfl, rfl, HF.out⟩⟩, HI.out.1⟩
    · obtain rfl : k = 44 := by omega
      have HF : Hid (freN s = none) := fre_no (fun c hc => HX.out.2 c hc)
      go_wp2
      try rw [Exit.noGoto_ret]
      go_ret2
      exact ⟨⟨_, _, rfl, .inl ⟨rfl, rfl, HF.out⟩⟩, HX.out.1⟩
end Go.Proofs.Ytoahejjeihmiiaa
