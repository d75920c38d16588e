/- Package names: New. -/
import Derived.Test.YtoahejjeihmiiaaNq
import Derived.WalkKit
import Derived.LoopTactic
import Derived.Deep.RegionWith
set_option maxRecDepth 100000
set_option linter.unusedVariables false
namespace Go.Proofs.Ytoahejjeihmiiaa
open Go.RowKit

/-- An array of 32 numbers. -/
def xCells (x : Nat → Int) : Array Value := rowK 32 fun k => .int .u64 (x k)
theorem xCells_at (x : Nat → Int) {k : Nat} (h : k < 32) : (xCells x)[k]? = some (.int .u64 (x k)) := rowK_at _ h
theorem xCells_set (x : Nat → Int) {k : Nat} (h : k < 32) (v : Int) : (xCells x).setIfInBounds k (.int .u64 v) = xCells (updN x k v) := by
  refine rowK_set h ?_ fun i hi hne => ?_
  · show Value.int .u64 (updN x k v k) = _
    rw [updN_same]
  · show Value.int .u64 (updN x k v i) = _
    rw [updN_other _ _ _ hne]
theorem xCells_size (x : Nat → Int) : (xCells x).size = 32 := rowK_size _ _
/-- A new file, its first k registers given. -/
def nwK (x : Nat → Int) (k : Nat) : Nst := ⟨fun c => if c < k then x c else 0, fun c => decide (c < k), fun r => if r < k then r else 0, []⟩
theorem nwK_next (x : Nat → Int) (k : Nat) : (⟨updN (nwK x k).v k (x k), updN (nwK x k).y k true, updN (nwK x k).s k k, []⟩ : Nst) = nwK x (k + 1) := by
  unfold nwK updN
  simp only [Nst.mk.injEq, and_true]
  refine ⟨?_, ?_, ?_⟩
  all_goals
    funext j
    by_cases h : j = k
    · simp [h]
    · by_cases h2 : j < k
      · simp [h, h2, show j < k + 1 by omega]
      · simp [h, h2, show ¬ j < k + 1 by omega]
theorem nwK_end (x : Nat → Int) (vl : Value) : nCells (nwK x 32) vl = nCells (newN x) vl := by
  refine rowK_congr fun k hk => ?_
  unfold nCell nwK newN
  dsimp only
  by_cases h1 : k < 88
  · rw [if_pos h1, if_pos h1]
  · rw [if_neg h1, if_neg h1]
    by_cases h2 : k < 120
    · rw [if_pos h2, if_pos h2, if_pos (by omega)]
    · rw [if_neg h2, if_neg h2]
theorem cell_store {P : Program} {w : World} {s : Nst} {vl : Value} {g : Nat} {t ty : TypeId} (hb : Blk (nCells s vl) t g w) (hz : (P.info? ty).map (·.size) = some 2) {k : Nat} (hk : k < 44) (v : Int) (d : Bool) {q : Nat} (hq : q = 2 * k) :
    ∃ w', (Instr.storeAt ty (.pointer (some ⟨g, q, none⟩)) (.agg #[.int .u64 v, .bool d])).run P w = .ok () w' ∧ Blk (nCells ⟨updN s.v k v, updN s.y k d, s.s, s.l⟩ vl) t g w' ∧ Fr [g] w w' := by
  subst hq
  obtain ⟨w', e, b, kk⟩ := Hz.part (P := P) hb (2 * k) [.int .u64 v, .bool d] (by rw [nCells, rowK_size]; show 2 * k + 2 ≤ 121; omega) (by intro v hv; simp at hv; rcases hv with rfl | rfl <;> rfl)
  rw [nCells_setV s vl hk v d] at b
  exact ⟨w', Hz.run_store_part (P := P) hz e, b, (Fr.refl [g] w).grown kk (by intro i hi; left; simpa using hi.symm)⟩
set_option maxHeartbeats 4000000 in
theorem new15_c (x : Nat → Int) (w : World) : Calls Try.prog 8 #[.agg (xCells x)] w fun e w' => ∃ p, e = .returned (.pointer (some ⟨p.g, 0, none⟩)) ∧ NAt (newN (updN x 0 0)) p w' ∧ (∀ k ∈ p.foot, w.heap.size ≤ k) ∧ BW w w' := by
  have H1 := Blk.new (xCells x) 23 w
  have B1 := Lib.hid (BW.new (Below.refl _ w) (.cells (xCells x) 23))
  obtain ⟨y, hy⟩ : ∃ y, updN x 0 0 = y := ⟨_, rfl⟩
  rw [hy]
  have HY := Lib.hid hy
  clear hy
  obtain ⟨b, hb⟩ : ∃ b, w.heap.size = b := ⟨_, rfl⟩
  go_enter Try.func8, Try.ntmps8
  go_upto_region 1 with (fail)
  generalize hw1 : w.alloc (.cells (xCells x) 23) = w1 at *
  try rw [hb] at H1
  try rw [hb]
  have HBE := Lib.hid hb
  clear hb hw1
  have H2 := Blk.new (nCells (nwK y 0) (.slice none 0 0)) 58 w1
  have B2 := Lib.hid (BW.on B1.out (BW.new (Below.refl _ w1) (.cells (nCells (nwK y 0) (.slice none 0 0)) 58)))
  have H12 := H1.alloc (.cells (nCells (nwK y 0) (.slice none 0 0)) 58)
  have hlt := H1.lt
  clear H1 B1
  obtain ⟨g, hg⟩ : ∃ g, w1.heap.size = g := ⟨_, rfl⟩
  rw [hg] at H2 hlt
  go_upto_region 2 with (first
    | (refine Hz.val_arm (o := ⟨some 6, .build _ _, _, _, _, _⟩) (v := .agg (nCells (nwK y 0) (.slice none 0 0))) (by kernel_rfl) (by kernel_rfl) ?_))
  try rw [hg]
  clear hg
  generalize World.alloc w1 _ = w2 at *
  have hne : g ≠ b := by omega
  have q0 := (H12.cell 0).trans (xCells_at x (by omega))
  have f0 := H12.free 0
  have H3 := H12.set 0 (.int .u64 0)
  rw [xCells_set x (by omega), HY.out] at H3
  have G3 := H2.other (a := ⟨b, 0, none⟩) hne (.int .u64 0)
  have B3 : Hid (BW w (w2.setCell ⟨b, 0, none⟩ (.int .u64 0))) := Below.setCell B2.out (by rw [HBE.out]; exact Nat.le_refl _) _
  go_upto_region 3 with (fail)
  clear q0 f0 H2 B2 H12
  generalize w2.setCell _ _ = w3 at *
  go_wp2_with (first
    | (refine Hz.val_arm (o := ⟨some 9, .load _ _, _, _, _, _⟩) (by kernel_rfl) (Hz.ex_load_all 23 (.tmp 1) rfl rfl H3 Try.underlying23 rfl (by rw [xCells_size]; kernel_rfl)) ?_))
  have G4 := Lib.hid G3
  have HG : Hid (w.heap.size ≤ g) := by show _ ≤ _; rw [HBE.out]; omega
  clear G3 H3 hlt hne
  go_loopw [4, 5, 10] (fun _ _ i wx => ∃ k : Nat, k ≤ 32 ∧ i = .int .i64 (k : Int) ∧ Hid (Blk (nCells (nwK y k) (.slice none 0 0)) 58 g wx ∧ BW w wx)) (fun _ _ i _ => 32 - (intOf i).toNat)
  case atStart => exact ⟨0, by omega, rfl, G4.out, B3.out⟩
  case round =>
    obtain ⟨k, hk, rfl, HH⟩ := hrel
    clear G4 B3
    by_cases hlt : k < 32
    · have hltI : (k : Int) < 32 := by omega
      have ix : ∀ w, (Instr.index 23 (.agg (xCells y)) (.int .i64 (k : Int))).run Try.prog w = .ok (.int .u64 (y k)) w := index_row Try.underlying23 Try.underlying22 rfl (by kernel_rfl) hlt (xCells_at y hlt)
      have hs := (HH.out.1.cell (88 + k)).trans (nCells_s _ _ hlt)
      have fs := HH.out.1.free (88 + k)
      have S1 := HH.out.1.set (88 + k) (.int .i64 (k : Int))
      rw [nCells_setS _ _ hlt] at S1
      have BS : BW w (wr.setCell ⟨g, 88 + k, none⟩ (.int .i64 (k : Int))) := Below.setCell HH.out.2 HG.out _
      obtain ⟨w5, e5, b5, k5⟩ := cell_store (P := Try.prog) (ty := 54) S1 (by kernel_rfl) (show k < 44 by omega) (y k) true (q := k * 2) (by omega)
      have HN : Hid (Blk (nCells (nwK y (k + 1)) (.slice none 0 0)) 58 g w5 ∧ BW w w5) := by
        refine ⟨?_, Below.trans BS (k5.below (by intro i hi; rw [List.mem_singleton.1 hi]; exact HG.out) (Below.size BS))⟩
        rw [← nwK_next]
        exact b5
      clear S1 BS b5 k5
      go_wp2_with (first
        | (with_reducible refine Hz.val_arm (o := ⟨some 13, .index _ _ _, _, _, _, _⟩) (by kernel_rfl) (ex_indexV rfl rfl rfl (ix _)) ?_)
        | (with_reducible refine Hz.store_arm (o := ⟨none, .store _ (.tmp 26) _, _, _, _, _⟩) rfl 54 (.tmp 26) (.tmp 23) rfl rfl rfl e5 ?_))
      go_roundw
      case rel => exact ⟨k + 1, by omega, by first | rfl | go_num, HN⟩
      case measure => simp [intOf]; omega
    · obtain rfl : k = 32 := by omega
      have HV : Hid (Blk (nCells (newN y) (.slice none 0 0)) 58 g wr) := by
        show Blk _ _ _ _
        rw [← nwK_end]
        exact HH.out.1
      go_wp2
      go_ret
      refine ⟨⟨g, .slice none 0 0⟩, rfl, ⟨HV.out, RowO.nil _ _ _, by simp [Value.ownBlock]⟩, ?_, HH.out.2⟩
      intro i hi
      rw [show i = g by simpa [Npl.foot, Value.ownBlock] using hi]
      exact HG.out
end Go.Proofs.Ytoahejjeihmiiaa
