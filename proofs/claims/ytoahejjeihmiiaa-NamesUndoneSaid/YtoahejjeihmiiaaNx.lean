/- Package names: Set. -/
import Derived.Test.YtoahejjeihmiiaaNw
set_option maxRecDepth 100000
set_option linter.unusedVariables false
namespace Go.Proofs.Ytoahejjeihmiiaa
open Go.RowKit

theorem set1_c (a b c : Int) (B : Nat) (w : World) (hc : w.cell? ⟨B, 0, none⟩ = some (.int .i64 c)) (hB : B < w.heap.size) : Calls Try.prog 28 #[.agg #[.int .i64 a, .int .i64 b], .pointer (some ⟨B, 0, none⟩)] w fun e w' => e = .returned (.bool (b == c)) ∧ BW w w' := by
  have h1 := Lib.hid (BW.new (Below.refl _ w) (.cells #[.int .i64 a, .int .i64 b] 61))
  have q := (h1.out.cell (p := ⟨B, 0, none⟩) hB).trans hc
  clear hc
  go_enter Try.func28, Try.ntmps28
  go_wp2
  go_ret
  exact ⟨rfl, h1.out⟩
set_option maxHeartbeats 2000000 in
theorem indexC_c (L cap : Nat) (A : Option Addr) (rg cl : Nat → Int) (c : Int) (B : Nat) (w : World) (hL : L ≤ 1000) (hc : w.cell? ⟨B, 0, none⟩ = some (.int .i64 c)) (hB : B < w.heap.size)
    (hA : 0 < L → ∃ b off, A = some ⟨b, off, none⟩ ∧ b < w.heap.size ∧ ∀ j, j < L → w.cell? ⟨b, off + j * 2, none⟩ = some (.int .i64 (rg j)) ∧ w.cell? ⟨b, off + j * 2 + 1, none⟩ = some (.int .i64 (cl j))) :
    Calls Try.prog 30 #[.slice A L cap, .func (.func 28) #[] #[.pointer (some ⟨B, 0, none⟩)]] w fun e w' => (∃ i, e = .returned (.int .i64 i) ∧ ((i = -1 ∧ ∀ j, j < L → cl j ≠ c) ∨ (0 ≤ i ∧ ∃ j, j < L ∧ cl j = c))) ∧ BW w w' := by
  have HA := Lib.hid hA
  have HC := Lib.hid hc
  clear hA hc
  go_enter Try.func30, Try.ntmps30
  go_wp2
  go_loopw [5, 8] (fun _ i wx => ∃ k : Nat, k ≤ L ∧ i = .int .i64 (k : Int) ∧ Hid (BW w wx ∧ ∀ j, j < k → cl j ≠ c)) (fun _ i _ => L - (intOf i).toNat)
  case atStart => exact ⟨0, by omega, rfl, Below.refl _ _, fun j hj => by omega⟩
  case round =>
    obtain ⟨k, hk, rfl, HH⟩ := hrel
    by_cases hlt : k < L
    · have hltI : (k : Int) < (L : Int) := by omega
      obtain ⟨b, off, rfl, hb, hcs⟩ := HA.out (by omega)
      obtain ⟨e0, e1⟩ := hcs k hlt
      have c0 := (HH.out.1.cell (p := ⟨b, off + k * 2, none⟩) hb).trans e0
      have c1 := (HH.out.1.cell (p := ⟨b, off + k * 2 + 1, none⟩) hb).trans e1
      have HK := Lib.hid (set1_c (rg k) (cl k) c B wr ((HH.out.1.cell (p := ⟨B, 0, none⟩) hB).trans HC.out) (by have := Below.size HH.out.1; omega))
      clear e0 e1 hcs
      by_cases hx : cl k = c
      · have HX : Hid (∃ j, j < L ∧ cl j = c) := ⟨k, hlt, hx⟩
        have ex : (cl k == c) = true := by simpa using hx
        rw [ex] at HK
        clear hx ex
        generalize cl k = x1 at *
        generalize rg k = x0 at *
        go_wp2_with (first
          | (go_at_call 28; refine HK.out.mono ?_; rintro e w2 ⟨rfl, hb2⟩; have HB2 := Lib.hid (BW.on HH.out.1 hb2); clear hb2))
        go_ret
        exact ⟨⟨_, rfl, .inr ⟨by omega, HX.out⟩⟩, HB2.out⟩
      · have HN : Hid (∀ j, j < k + 1 → cl j ≠ c) := fun j hj => by
          by_cases hjk : j = k
          · rw [hjk]; exact hx
          · exact HH.out.2 j (by omega)
        have ex : (cl k == c) = false := by simpa using hx
        rw [ex] at HK
        clear hx ex
        generalize cl k = x1 at *
        generalize rg k = x0 at *
        go_wp2_with (first
          | (go_at_call 28; refine HK.out.mono ?_; rintro e w2 ⟨rfl, hb2⟩; have HB2 := Lib.hid (BW.on HH.out.1 hb2); clear hb2))
        go_roundw
        case rel => exact ⟨k + 1, by omega, by first | rfl | go_num, HB2.out, HN.out⟩
        case measure => simp [intOf]; omega
    · obtain rfl : k = L := by omega
      go_wp2
      go_ret
      exact ⟨⟨_, rfl, .inl ⟨rfl, HH.out.2⟩⟩, HH.out.1⟩
theorem containsC_c (L cap : Nat) (A : Option Addr) (rg cl : Nat → Int) (c : Int) (B : Nat) (w : World) (hL : L ≤ 1000) (hc : w.cell? ⟨B, 0, none⟩ = some (.int .i64 c)) (hB : B < w.heap.size)
    (hA : 0 < L → ∃ b off, A = some ⟨b, off, none⟩ ∧ b < w.heap.size ∧ ∀ j, j < L → w.cell? ⟨b, off + j * 2, none⟩ = some (.int .i64 (rg j)) ∧ w.cell? ⟨b, off + j * 2 + 1, none⟩ = some (.int .i64 (cl j))) (t : Bool) (ht : t = true ↔ ∃ j, j < L ∧ cl j = c) :
    Calls Try.prog 27 #[.slice A L cap, .func (.func 28) #[] #[.pointer (some ⟨B, 0, none⟩)]] w fun e w' => e = .returned (.bool t) ∧ BW w w' := by
  have HI := Lib.hid (indexC_c L cap A rg cl c B w hL hc hB hA)
  have HT := Lib.hid ht
  clear hc hA ht
  go_enter Try.func27, Try.ntmps27
  go_wp2_with (first
    | (go_at_call 30; refine HI.out.mono ?_; rintro e w2 ⟨⟨i, rfl, hi⟩, hb⟩))
  go_ret
  refine ⟨?_, hb⟩
  have hd : decide (0 ≤ i) = t := by
    rcases hi with ⟨rfl, hn⟩ | ⟨h0, hj⟩
    · cases t with
      | false => rfl
      | true => obtain ⟨j, h1, h2⟩ := HT.out.1 rfl; exact absurd h2 (hn j h1)
    · rw [HT.out.2 hj]
      exact decide_eq_true h0
  rw [hd]
  rfl
theorem set15_nil (c v : Int) (w : World) : Calls Try.prog 12 #[.pointer none, .int .i64 c, .int .u64 v] w fun e w' => e = .returned (.bool false) ∧ BW w w' := by
  have h1 := Lib.hid (BW.new (Below.refl _ w) (.cells #[.int .i64 c] 3))
  go_enter Try.func12, Try.ntmps12
  go_wp2
  go_ret
  exact ⟨rfl, h1.out⟩
/-- A file's head and another block, both known whole. -/
def NS (C : Array Value) (g : Nat) (D : Array Value) (U : TypeId) (b : Nat) (x : World) : Prop := Blk C 58 g x ∧ Blk D U b x
theorem Fr.wide {F G : List Nat} {w w' : World} (h : Fr F w w') (hs : ∀ i ∈ F, i ∈ G) : Fr G w w' := (Fr.refl G w).trans h (fun i hi => .inl (hs i hi))
theorem NAt.turned {s t : Nst} {p : Npl} {w w' : World} (h : NAt s p w) (hl : t.l = s.l) (hb : Blk (nCells t p.vl) 58 p.g w') (k : Fr [p.g] w w') : UpT (NAt t) p w w' := by
  refine UpT.same ?_ (k.wide (by intro i hi; rw [List.mem_singleton.1 hi]; exact foot_head p))
  unfold NAt
  rw [hl]
  exact Two.turn (C' := nCells t) h hb k
set_option maxHeartbeats 4000000 in
theorem set15_c {s : Nst} {p : Npl} {w : World} (h : NAt s p w) (ok : NOk s) (c v : Int) : Calls Try.prog 12 #[.pointer (some ⟨p.g, 0, none⟩), .int .i64 c, .int .u64 v] w fun e w' => e = .returned (.bool (hasN s c)) ∧ UpT (NAt (setN s c v)) p w w' := by
  have hb1 : BW w (w.alloc (.cells #[.int .i64 c] 3)) := BW.new (Below.refl _ _) _
  have HX1 := Two.on h hb1
  have k1 := Blk.new #[.int .i64 c] 3 w
  obtain ⟨A, cap, hv, h1, h2, h3⟩ := NAt.reads HX1
  have hlen := ok.len
  have hneg : p.g ≠ w.heap.size := by have := h.head.lt; omega
  have HI := fun t ht => containsC_c s.l.length cap A (fun j => ((clAt s j).1 : Int)) (fun j => ((clAt s j).2 : Int)) c w.heap.size _ (by omega) (k1.cell 0) k1.lt (fun h0 => by obtain ⟨b, off, e1, e2, _, e3⟩ := h3 h0; exact ⟨b, off, e1, e2, e3⟩) t ht
  have hiff : hasN s c = true ↔ ∃ j, j < s.l.length ∧ ((clAt s j).2 : Int) = c := by
    rw [has_iff]
    constructor
    · rintro ⟨k, hk, e⟩
      obtain ⟨j, hj, rfl⟩ := List.getElem_of_mem hk
      exact ⟨j, hj, by rw [clAt_eq hj]; exact e⟩
    · rintro ⟨j, hj, e⟩
      exact ⟨_, List.getElem_mem hj, by rw [← clAt_eq hj]; exact e⟩
  have HC := Lib.hid (HI _ hiff)
  have q1 := (HX1.head.cell 120).trans (nCells_l s p.vl)
  rw [hv] at q1
  have HUP := Lib.hid (fun t x (hx : BW (w.alloc (.cells #[.int .i64 c] 3)) x) (y : World) (hu : UpT (NAt t) p x y) => UpT.ahead (BW.on hb1 hx) hu)
  have HX := Lib.hid HX1
  have K1 := Lib.hid k1
  have HV := Lib.hid hv
  have HIN : Hid (hasN s c = true → ∃ k : Nat, c = (k : Int) ∧ k < 44 ∧ setN s c v = putN s k v) := fun ht => by
    obtain ⟨x, hx, e⟩ := (has_iff s c).1 ht
    refine ⟨x.2, e.symm, (ok.cl x hx).2.2, ?_⟩
    unfold setN
    rw [if_pos ht, ← e]
    rfl
  have HNO : Hid (hasN s c = false → setN s c v = s) := fun ht => by unfold setN; rw [if_neg (by rw [ht]; decide)]
  obtain ⟨g, hg⟩ : ∃ g, p.g = g := ⟨_, rfl⟩
  have HG := Lib.hid hg
  rw [hg] at q1 hneg ⊢
  clear h HX1 k1 h3 HI hiff hb1 hv hg
  cases ht : hasN s c with
  | false =>
    rw [ht] at HC
    rw [HNO.out ht]
    clear ht HIN HNO K1 hneg
    go_enter Try.func12, Try.ntmps12
    go_upto_region 1 with (fail)
    generalize w.alloc _ = w1 at *
    go_wp2_with (first
      | (go_at_call 27; refine HC.out.mono ?_; rintro e w2 ⟨rfl, hb⟩))
    go_ret
    exact ⟨rfl, HUP.out s _ hb _ (UpT.same (Two.on HX.out hb) (Fr.refl _ _))⟩
  | true =>
    rw [ht] at HC
    obtain ⟨k, rfl, hk, hset⟩ := HIN.out ht
    rw [hset]
    clear ht HIN HNO hset
    go_enter Try.func12, Try.ntmps12
    go_upto_region 1 with (fail)
    obtain ⟨B, hB⟩ : ∃ B, w.heap.size = B := ⟨_, rfl⟩
    try rw [hB] at HC
    try rw [hB] at K1
    try rw [hB] at hneg
    try rw [hB]
    clear hB
    generalize w.alloc _ = w1 at *
    go_upto_region 3 with (first
      | (go_at_call 27; refine HC.out.mono ?_; rintro e w2 ⟨rfl, hb⟩))
    have HX2 := Two.on HX.out hb
    have hs2 : NS (nCells s p.vl) g #[.int .i64 (k : Int)] 3 B w2 := ⟨by rw [← HG.out]; exact HX2.head, K1.out.on hb⟩
    clear q1
    refine wp_region_P (S := NS (nCells s p.vl) g #[.int .i64 (k : Int)] 3 B) (c := 7) (by kernel_rfl) ?_
    change wpAnyP _ _ _ _ _ _ _ _ _ (World.drew _)
    have HS : NS (nCells s p.vl) g #[.int .i64 (k : Int)] 3 B w2.drew := ⟨hs2.1.drew, hs2.2.drew⟩
    have hbd : Hid (BW w2 w2.drew) := Below.drew (Below.refl _ _)
    clear hs2
    generalize World.drew _ = w3 at *
    refine hp_val (i := 0) (oi := ⟨some 18, .move _, _, _, _, _⟩) [7] (.pointer (some ⟨g, 0, none⟩)) rfl (by kernel_rfl) (by kernel_rfl) (by kernel_rfl) (by kernel_rfl) (by kernel_rfl) rfl (fun _ _ _ h => h) (by kernel_rfl) (fun _ _ => rfl) HS ?_
    simp only [Act.put, List.setIfInBounds_toArray, List.set_cons_zero, List.set_cons_succ]
    refine hp_val (i := 1) (oi := ⟨some 19, .load _ _, _, _, _, _⟩) [7] (.int .i64 (k : Int)) rfl (by kernel_rfl) (by kernel_rfl) (by kernel_rfl) (by kernel_rfl) (by kernel_rfl) rfl (fun _ _ _ h => h) (by kernel_rfl) (fun x hx => ex_load rfl rfl (hx.2.cell 0) (by kernel_rfl)) HS ?_
    simp only [Act.put, List.setIfInBounds_toArray, List.set_cons_zero, List.set_cons_succ]
    refine hp_val (i := 2) (oi := ⟨some 20, .move _, _, _, _, _⟩) [7] (.int .u64 v) rfl (by kernel_rfl) (by kernel_rfl) (by kernel_rfl) (by kernel_rfl) (by kernel_rfl) rfl (fun _ _ _ h => h) (by kernel_rfl) (fun _ _ => rfl) HS ?_
    simp only [Act.put, List.setIfInBounds_toArray, List.set_cons_zero, List.set_cons_succ]
    refine hp_val (i := 3) (oi := ⟨some 21, .build _ _, _, _, _, _⟩) [7] (.agg #[.int .u64 v, .bool true]) rfl (by kernel_rfl) (by kernel_rfl) (by kernel_rfl) (by kernel_rfl) (by kernel_rfl) rfl (fun _ _ _ h => h) (by kernel_rfl) (fun _ _ => by kernel_rfl) HS ?_
    simp only [Act.put, List.setIfInBounds_toArray, List.set_cons_zero, List.set_cons_succ]
    refine hp_val (i := 4) (oi := ⟨some 22, .nilCheck _, _, _, _, _⟩) [5, 6, 7] (.pointer (some ⟨g, 0, none⟩)) rfl (by kernel_rfl) (by kernel_rfl) (by kernel_rfl) (by kernel_rfl) (by kernel_rfl) rfl (fun _ _ _ h => h) (by kernel_rfl) (fun _ _ => rfl) HS ?_
    simp only [Act.put, List.setIfInBounds_toArray, List.set_cons_zero, List.set_cons_succ]
    refine hp_val (i := 5) (oi := ⟨some 23, .fieldAddr _ _ _, _, _, _, _⟩) [6, 7] (.pointer (some ⟨g, 0, none⟩)) rfl (by kernel_rfl) (by kernel_rfl) (by kernel_rfl) (by kernel_rfl) (by kernel_rfl) rfl (fun _ _ _ h => h) (by kernel_rfl) (fun _ _ => by kernel_rfl) HS ?_
    simp only [Act.put, List.setIfInBounds_toArray, List.set_cons_zero, List.set_cons_succ]
    refine hp_val (i := 6) (oi := ⟨some 24, .indexAddr _ _ _, _, _, _, _⟩) [7] (.pointer (some ⟨g, 2 * k, none⟩)) rfl (by kernel_rfl) (by kernel_rfl) (by kernel_rfl) (by kernel_rfl) (by kernel_rfl) rfl (fun _ _ _ h => h) (by kernel_rfl) (fun _ _ => Hz.ex_indexA (z := 2) rfl rfl rfl rfl hk Try.underlying55 (by kernel_rfl) (by omega)) HS ?_
    simp only [Act.put, List.setIfInBounds_toArray, List.set_cons_zero, List.set_cons_succ]
    refine hp_last (i := 7) (oi := ⟨none, .store _ _ _, _, _, _, _⟩) (by kernel_rfl) rfl (by kernel_rfl) (by kernel_rfl) ?_
    obtain ⟨w5, e5, b5, k5⟩ := cell_store (P := Try.prog) (ty := 54) HS.1 (by kernel_rfl) hk v true rfl
    refine wp_store_cell rfl rfl rfl rfl e5 ?_
    refine wpAnyH_done (by kernel_rfl) ?_ _
    go_wp2
    go_ret
    have HX3 := Two.on HX2 hbd.out
    exact ⟨rfl, HUP.out _ _ (BW.on hb hbd.out) _ (NAt.turned HX3 rfl (by rw [HG.out]; exact b5) (by rw [HG.out]; exact k5))⟩
end Go.Proofs.Ytoahejjeihmiiaa
