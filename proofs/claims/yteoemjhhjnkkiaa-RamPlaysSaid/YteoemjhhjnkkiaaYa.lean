/- The document's memory: how it lies; a new one; which places may be. -/
import Derived.Test.YteoemjhhjnkkiaaMo
import Derived.Test.YteoemjhhjnkkiaaMj
import Derived.Great.BuildSlice
set_option maxRecDepth 100000
set_option linter.unusedVariables false
namespace Go.Proofs.Yteoemjhhjnkkiaa
open Go.RowKit

def rrCells (va vl : Value) (r : Nat → Int) : Array Value := #[va, vl, .int .i64 0, .int .i64 (r 0), .int .i64 (r 1), .int .u64 0, .int .i64 0, .int .i64 (r 2), .int .i64 (r 3), .int .u64 0, .int .i64 0, .int .i64 (r 4), .int .i64 (r 5), .int .u64 0]
structure Plr where
  g : Nat
  va : Value
  vl : Value
def Plr.foot (p : Plr) : List Nat := p.g :: (p.va.ownBlock.toList ++ p.vl.ownBlock.toList)
structure RrAt (s : Mst) (p : Plr) (w : World) : Prop where
  head : Blk (rrCells p.va p.vl s.r) 63 p.g w
  byt : w.ownsRow 0 5 1 p.va s.b0.length (cellsB s.b0)
  log : w.ownsRow 0 31 4 p.vl s.l.length (cellsW s.l)
  ap : ∀ k, p.va.ownBlock = some k → k ≠ p.g
  apl : ∀ k, p.vl.ownBlock = some k → k ≠ p.g ∧ p.va.ownBlock ≠ some k
theorem RrAt.lt {s : Mst} {p : Plr} {w : World} (h : RrAt s p w) : ∀ k ∈ p.foot, k < w.heap.size := by
  intro k hk
  simp only [Plr.foot, List.mem_cons, List.mem_append, Option.mem_toList] at hk
  rcases hk with rfl | hk | hk
  · exact h.head.lt
  · exact (h.byt.lt k hk).2
  · exact (h.log.lt k hk).2
theorem RrAt.fr {s : Mst} {p : Plr} {w w' : World} {F : List Nat} (h : RrAt s p w) (k : Fr F w w') (hF : ∀ i ∈ p.foot, i ∉ F) : RrAt s p w' :=
  ⟨k.blk h.head (hF _ (by simp [Plr.foot])), k.row h.byt fun i hi => hF i (by simp [Plr.foot, hi]), k.row h.log fun i hi => hF i (by simp [Plr.foot, hi]), h.ap, h.apl⟩
theorem RrAt.on {s : Mst} {p : Plr} {w w' : World} (h : RrAt s p w) (k : BW w w') : RrAt s p w' := h.fr (Fr.of [] k) (fun _ _ hi => by cases hi)
theorem rd_new (w : World) (cs : Array Value) (t : TypeId) : Rd (w.alloc (.cells cs t)) (w.alloc (.cells cs t)).heap.size (some ⟨w.heap.size, 0, none⟩) cs.toList := by
  refine .inr ⟨w.heap.size, 0, rfl, by simp, fun i v hv => ?_⟩
  rw [Nat.zero_add, (Blk.new cs t w).cell i]
  simpa using hv
theorem take_snocB (l : List Int) (k : Nat) (h : k < l.length) : cellsB (l.take k) ++ [Value.int .u8 (l.getD k 0)] = cellsB (l.take (k + 1)) := by
  unfold cellsB
  rw [List.take_succ_eq_append_getElem h, List.map_append, List.getD_eq_getElem?_getD, List.getElem?_eq_getElem h]
  rfl
theorem take_snocI (l : List Int) (k : Nat) (h : k < l.length) : cellsI (l.take k) ++ [Value.int .i64 (l.getD k 0)] = cellsI (l.take (k + 1)) := by
  unfold cellsI
  rw [List.take_succ_eq_append_getElem h, List.map_append, List.getD_eq_getElem?_getD, List.getElem?_eq_getElem h]
  rfl
/-! ### New -/
theorem ex_index1 {P : Program} {o : Oper} {a : Act} {w : World} {t : TypeId} {x ix : Operand} {e : TypeId} {g off n c j : Nat} {q : Int} (ho : o.op = .indexAddr t x ix) (hx : a.eval x = .slice (some ⟨g, off, none⟩) n c) (hi : a.eval ix = .int .i64 q) (hq : q = (j : Int)) (hj : j < n) (he : P.underlying t = some (.slice e)) (hs : (sizeOf e).run P w = .ok 1 w) :
    (execOp a.eval o).run P w = .ok (.value (.pointer (some ⟨g, off + j, none⟩))) w := by
  have h := ex_indexz (z := 1) ho hx hi hq hj he hs
  rw [Nat.mul_one] at h
  exact h
theorem BW.frg' {W w w' : World} {g : Nat} (h : BW W w) (k : Fr [g] w w') (hg : W.heap.size ≤ g) : BW W w' := h.fr k (fun i hi => by
  have e : i = g := by simpa using hi
  omega)
structure RN (W : World) (img : List Int) (k : Nat) (va : Value) (w : World) : Prop where
  bw : BW W w
  hd : Blk (rrCells va (.slice none 0 0) (fun _ => 0)) 63 W.heap.size w
  row : w.ownsRow (W.heap.size + 1) 5 1 va k (cellsB (img.take k))
theorem RN.on {W w w' : World} {img : List Int} {k : Nat} {va : Value} (h : RN W img k va w) (b : BW w w') : RN W img k va w' := ⟨h.bw.on b, h.hd.on b, (Fr.of [] b).row h.row (by simp)⟩
theorem RN.app {W w w9 : World} {img : List Int} {k : Nat} {va va' : Value} (h : RN W img k va w) (hk : k < img.length) (ho : w9.ownsRow (W.heap.size + 1) 5 1 va' (k + 1) (cellsB (img.take k) ++ [.int .u8 (img.getD k 0)])) (hg : w.grownBy w9 va.ownBlock) :
    w9.cell? ⟨W.heap.size, 0, none⟩ = some va ∧ w9.frozen? ⟨W.heap.size, 0, none⟩ = false ∧ RN W img (k + 1) va' (w9.setCell ⟨W.heap.size, 0, none⟩ va') := by
  rw [take_snocB img k hk] at ho
  have hne : ∀ q, va.ownBlock = some q → W.heap.size + 1 ≤ q := fun q e => (h.row.lt q e).1
  have kf : Fr va.ownBlock.toList w w9 := (Fr.refl _ _).grown hg (fun i e => .inl (by simp [e]))
  have hd9 := kf.blk h.hd (fun hm => by
    have e : va.ownBlock = some W.heap.size := by simpa using hm
    have := hne _ e
    omega)
  have kg : Fr [W.heap.size] w9 (w9.setCell ⟨W.heap.size, 0, none⟩ va') := (Fr.refl _ _).setCell (.inl (by simp)) _
  refine ⟨hd9.cell 0, hd9.free 0, ?_, hd9.set 0 _, kg.row ho (fun q hq => ?_)⟩
  · have b1 : BW W w9 := h.bw.fr kf (fun i hi => by have := hne i (by simpa using hi); omega)
    exact b1.frg' kg (Nat.le_refl _)
  · have := (ho.lt q hq).1
    simp
    omega
def RetNewR (w : World) (l : List Int) (e : Ending) (w' : World) : Prop := ∃ p : Plr, e = .returned (.pointer (some ⟨p.g, 0, none⟩)) ∧ RrAt (newM l) p w' ∧ (∀ k ∈ p.foot, w.heap.size ≤ k) ∧ BW w w'
theorem RN.done {W w : World} {img : List Int} {k : Nat} {va : Value} (h : RN W img k va w) (hk : img.take k = img.take 1024) (hl : (img.take k).length = k) : RetNewR W img (.returned (.pointer (some ⟨W.heap.size, 0, none⟩))) w := by
  refine ⟨⟨W.heap.size, va, .slice none 0 0⟩, rfl, ⟨h.hd, ?_, World.ownsRow_nil _ _ _ _, fun q hq => ?_, fun q hq => by cases hq⟩, ?_, h.bw⟩
  · show w.ownsRow 0 _ 1 va (img.take 1024).length (cellsB (img.take 1024))
    rw [← hk, hl]
    exact own_mono h.row (Nat.zero_le _)
  · have := (h.row.lt q hq).1
    show q ≠ W.heap.size
    omega
  · intro q hq
    simp only [Plr.foot, List.mem_cons, List.mem_append, Option.mem_toList] at hq
    rcases hq with rfl | hq | hq
    · exact Nat.le_refl _
    · have := (h.row.lt q hq).1; omega
    · cases hq
set_option maxHeartbeats 4000000 in
theorem rnew_c (A : Option Addr) (cap : Nat) (l : List Int) (w : World) (hl : l.length ≤ 9223372036854775807) (hr : Rd w w.heap.size A (cellsB l)) : Calls Try.prog 9 #[.slice A l.length cap] w (RetNewR w l) := by
  obtain ⟨i0, hi1, hz0, hz1, hz2⟩ := inf_parts (P := Try.prog) (e := 5) (z := .int .u8 0) (n := 1) (b := 1) (by kernel_rfl)
  have hbd : ∀ w : World, (Instr.build 63 #[]).run Try.prog w = .ok (.agg (rrCells (.slice none 0 0) (.slice none 0 0) (fun _ => 0))) w := fun _ => by kernel_rfl
  have HRN : Hid (RN w l 0 (.slice none 0 0) (w.alloc (.cells (rrCells (.slice none 0 0) (.slice none 0 0) (fun _ => 0)) 63))) := ⟨BW.new (Below.refl _ _) _, Blk.new _ _ _, World.ownsRow_nil _ _ _ _⟩
  have HR := Lib.hid hr; clear hr
  go_enter Try.func9, Try.ntmps9
  go_wp2
  go_loopw [4] (fun i wx => ∃ (k : Nat) (va : Value), k ≤ l.length ∧ k ≤ 1024 ∧ i = .int .i64 (k : Int) ∧ RN w l k va wx) (fun i _ => 1024 - (intOf i).toNat)
  case atStart => exact ⟨0, _, by omega, by omega, rfl, HRN.out⟩
  case round =>
    obtain ⟨k, va, hk1, hk2, rfl, hrn⟩ := hrel
    clear HRN
    have HN := Lib.hid hrn
    clear hrn
    by_cases hc1 : k < l.length
    · have hc1' : (k : Int) < (l.length : Int) := by omega
      by_cases hc2 : k < 1024
      · have hc2' : (k : Int) < 1024 := by omega
        obtain ⟨b, off, hA, hcl⟩ := rd_cell HR.out (q := k) (v := .int .u8 (l.getD k 0)) (by unfold cellsB; rw [List.getElem?_map, List.getD_eq_getElem?_getD, List.getElem?_eq_getElem hc1]; rfl)
        subst hA
        have HCL := Lib.hid hcl
        clear hcl
        obtain ⟨A0, c0, hva, -⟩ := own_parts HN.out.row
        go_upto_region 5 with (fail)
        have HS := HN.out.on (Below.drew (Below.refl _ _))
        clear HN
        refine wp_region_P (S := fun x => RN w l k va x) (c := 10) (by kernel_rfl) ?_
        change wpAnyP _ _ _ _ _ _ _ _ _ (World.drew _)
        generalize World.drew _ = w3 at *
        refine hp_any (i := 0) (oi := ⟨some 17, .move _, _, _, _, _⟩) (.pointer (some ⟨w.heap.size, 0, none⟩)) rfl (by kernel_rfl) (by kernel_rfl) (by kernel_rfl) (by decide) (fun _ _ _ h => h) (by kernel_rfl) (fun _ => rfl) HS ?_
        simp only [Act.put, List.setIfInBounds_toArray, List.set_cons_zero, List.set_cons_succ]
        refine hp_val (i := 1) (oi := ⟨some 18, .move _, _, _, _, _⟩) [2, 3, 4, 10] (.pointer (some ⟨w.heap.size, 0, none⟩)) rfl (by kernel_rfl) (by kernel_rfl) (by kernel_rfl) (by kernel_rfl) (by kernel_rfl) rfl (fun _ _ _ h => h) (by kernel_rfl) (fun _ _ => rfl) HS ?_
        simp only [Act.put, List.setIfInBounds_toArray, List.set_cons_zero, List.set_cons_succ]
        refine hp_val (i := 2) (oi := ⟨some 19, .nilCheck _, _, _, _, _⟩) [3, 4, 10] (.pointer (some ⟨w.heap.size, 0, none⟩)) rfl (by kernel_rfl) (by kernel_rfl) (by kernel_rfl) (by kernel_rfl) (by kernel_rfl) rfl (fun _ _ _ h => h) (by kernel_rfl) (fun _ _ => rfl) HS ?_
        simp only [Act.put, List.setIfInBounds_toArray, List.set_cons_zero, List.set_cons_succ]
        refine hp_val (i := 3) (oi := ⟨some 20, .fieldAddr _ _ _, _, _, _, _⟩) [4, 10] (.pointer (some ⟨w.heap.size, 0, none⟩)) rfl (by kernel_rfl) (by kernel_rfl) (by kernel_rfl) (by kernel_rfl) (by kernel_rfl) rfl (fun _ _ _ h => h) (by kernel_rfl) (fun _ _ => by kernel_rfl) HS ?_
        simp only [Act.put, List.setIfInBounds_toArray, List.set_cons_zero, List.set_cons_succ]
        refine hp_val (i := 4) (oi := ⟨some 21, .load _ _, _, _, _, _⟩) [10] (va) rfl (by kernel_rfl) (by kernel_rfl) (by kernel_rfl) (by kernel_rfl) (by kernel_rfl) rfl (fun _ _ _ h => h) (by kernel_rfl) (fun x hx => ex_load rfl rfl (hx.hd.cell 0) (by kernel_rfl)) HS ?_
        simp only [Act.put, List.setIfInBounds_toArray, List.set_cons_zero, List.set_cons_succ]
        refine hp_val (i := 5) (oi := ⟨some 22, .move _, _, _, _, _⟩) [7, 8, 9, 10] (.slice (some ⟨b, off, none⟩) l.length cap) rfl (by kernel_rfl) (by kernel_rfl) (by kernel_rfl) (by kernel_rfl) (by kernel_rfl) rfl (fun _ _ _ h => h) (by kernel_rfl) (fun _ _ => rfl) HS ?_
        simp only [Act.put, List.setIfInBounds_toArray, List.set_cons_zero, List.set_cons_succ]
        refine hp_val (i := 6) (oi := ⟨some 23, .move _, _, _, _, _⟩) [7, 8, 9, 10] (.int .i64 (k : Int)) rfl (by kernel_rfl) (by kernel_rfl) (by kernel_rfl) (by kernel_rfl) (by kernel_rfl) rfl (fun _ _ _ h => h) (by kernel_rfl) (fun _ _ => rfl) HS ?_
        simp only [Act.put, List.setIfInBounds_toArray, List.set_cons_zero, List.set_cons_succ]
        refine hp_val (i := 7) (oi := ⟨some 24, .indexAddr _ _ _, _, _, _, _⟩) [8, 9, 10] (.pointer (some ⟨b, off + k, none⟩)) rfl (by kernel_rfl) (by kernel_rfl) (by kernel_rfl) (by kernel_rfl) (by kernel_rfl) rfl (fun _ _ _ h => h) (by kernel_rfl) (fun _ _ => ex_index1 rfl rfl rfl rfl hc1 Try.underlying22 (by kernel_rfl)) HS ?_
        simp only [Act.put, List.setIfInBounds_toArray, List.set_cons_zero, List.set_cons_succ]
        refine hp_val (i := 8) (oi := ⟨some 25, .load _ _, _, _, _, _⟩) [9, 10] (.int .u8 (l.getD k 0)) rfl (by kernel_rfl) (by kernel_rfl) (by kernel_rfl) (by kernel_rfl) (by kernel_rfl) rfl (fun _ _ _ h => h) (by kernel_rfl) (fun x hx => ex_load rfl rfl (HCL.out x hx.bw) (by kernel_rfl)) HS ?_
        simp only [Act.put, List.setIfInBounds_toArray, List.set_cons_zero, List.set_cons_succ]
        refine hp_one (i := 9) (oi := ⟨some 26, .buildSlice _ _ _, _, _, _, _⟩) (by kernel_rfl) rfl (by kernel_rfl) ?_
        refine Go.wp_buildSlice 22 5 1 _ rfl #[.int .u8 (l.getD k 0)] i0 _ Try.underlying22 hi1 hz0 (by rw [hz1]; decide) (by rw [hz1]; decide) (by rw [hz1]; kernel_rfl) ?_
        have HS9 := HS.on (BW.new (Below.refl w3.heap.size w3) (.cells #[.int .u8 (l.getD k 0)] 5))
        refine ⟨HS9, ?_⟩
        have hnew : (w3.alloc (.cells #[.int .u8 (l.getD k 0)] 5)).heap[w3.heap.size]? = some (.cells #[.int .u8 (l.getD k 0)] 5 (0, 0)) := Blk.new _ _ _
        simp only [Act.put, List.setIfInBounds_toArray, List.set_cons_zero, List.set_cons_succ]
        refine hp_last (i := 10) (oi := ⟨some 27, .call _, _, _, _, _⟩) (by kernel_rfl) rfl (by kernel_rfl) (by kernel_rfl) ?_
        refine wp_append_lies _ (.tmp 21) (.tmp 26) 22 rfl (w.heap.size + 1) 5 i0 _ 1 1 Try.underlying22 hi1 hz0 hz1 hz2 rfl (by decide) va k (cellsB (l.take k)) rfl HS9.row ⟨w3.heap.size, 0, none⟩ 1 1 [.int .u8 (l.getD k 0)] rfl rfl (World.news_of_block hnew) (by intro u hu; simp at hu; rw [hu]; rfl) (by decide) (by unfold maxLen; omega) (by omega) (by have := HS9.hd.lt; omega) _ rfl ?_
        intro gv cv w9 ho9 hg9 hgv hlt9
        clear hnew
        simp only [Act.put, List.setIfInBounds_toArray, List.set_cons_zero, List.set_cons_succ]
        refine hk_val (i := 11) (oi := ⟨some 28, .nilCheck _, _, _, _, _⟩) (.pointer (some ⟨w.heap.size, 0, none⟩)) rfl (by kernel_rfl) (by kernel_rfl) (by kernel_rfl) (fun _ _ _ h => h) (by kernel_rfl) (fun _ _ => rfl) trivial ?_
        simp only [Act.put, List.setIfInBounds_toArray, List.set_cons_zero, List.set_cons_succ]
        refine hk_val (i := 12) (oi := ⟨some 29, .fieldAddr _ _ _, _, _, _, _⟩) (.pointer (some ⟨w.heap.size, 0, none⟩)) rfl (by kernel_rfl) (by kernel_rfl) (by kernel_rfl) (fun _ _ _ h => h) (by kernel_rfl) (fun _ _ => by kernel_rfl) trivial ?_
        simp only [Act.put, List.setIfInBounds_toArray, List.set_cons_zero, List.set_cons_succ]
        refine hk_one (i := 13) (oi := ⟨none, .store _ _ _, _, _, _, _⟩) (by kernel_rfl) rfl (by kernel_rfl) ?_
        obtain ⟨q9, f9, HNN⟩ := HS9.app hc1 ho9 hg9
        refine wp_store_one (v := .slice (some ⟨gv, 0, none⟩) (k + 1) cv) rfl rfl rfl rfl q9 f9 (by kernel_rfl) rfl rfl ?_
        refine ⟨trivial, ?_⟩
        have HN2 := Lib.hid HNN
        clear q9 f9 ho9 hg9 hgv HS9 hlt9 HS HNN
        generalize World.setCell _ _ _ = w10 at *
        refine wpAnyH_done (by kernel_rfl) ?_ _
        go_wp2
        go_roundw
        case rel => exact ⟨k + 1, _, by omega, by omega, by go_num, HN2.out⟩
        case measure => simp [intOf]; omega
      · have hc2' : ¬ (k : Int) < 1024 := by omega
        have HF := Lib.hid (HN.out.done (by rw [show k = 1024 by omega]) (by rw [List.length_take]; omega))
        go_wp2
        go_ret
        exact HF.out
    · have hc1' : ¬ (k : Int) < (l.length : Int) := by omega
      have HF := Lib.hid (HN.out.done (by rw [List.take_of_length_le (by omega), List.take_of_length_le (by omega)]) (by rw [List.length_take]; omega))
      go_wp2
      go_ret
      exact HF.out
/-! ### May -/
theorem rmay_c {s : Mst} {p : Plr} {w : World} (h : RrAt s p w) (hn : s.b0.length ≤ 1024) (a z : Int) (ha : a ≤ 9223372036854775807) : Calls Try.prog 17 #[.pointer (some ⟨p.g, 0, none⟩), .int .i64 a, .int .i64 z] w fun e w' => e = .returned (.bool (mayP s.n a z)) ∧ w = w' := by
  obtain ⟨A0, c0, hva, -⟩ := own_parts h.byt
  have hc : w.cell? ⟨p.g, 0, none⟩ = some p.va := h.head.cell 0
  rw [hva] at hc
  have hk := raligned_any a z ha
  unfold Mst.n
  have hlt := h.head.lt
  clear h hva
  cases hal : alg a z with
  | false =>
    have HM := Lib.hid (mayP_no (n := (s.b0.length : Int)) hal)
    rw [hal] at hk
    have HK := Lib.hid hk
    clear hal hk
    go_enter Try.func17, Try.ntmps17
    go_wp2_with (first
      | (go_at_call 37; refine (HK.out _).mono ?_; rintro e w2 ⟨rfl, rfl⟩))
    go_ret
    exact ⟨ret_bool HM.out.symm, rfl⟩
  | true =>
    have hm := mayP_yes (n := (s.b0.length : Int)) hal
    have hal' := alg_out hal
    rw [hal] at hk
    have HK := Lib.hid hk
    clear hal hk
    have hz1 : 1 ≤ z ∧ z ≤ 8 := by omega
    have hz2 := hal'.2
    clear hal'
    by_cases h2 : a ≤ 2000
    · have HM : Hid (mayP (s.b0.length : Int) a z = decide (a + z ≤ (s.b0.length : Int))) := by
        show _ = _
        rw [hm]
        exact decide_eq_decide.2 (by omega)
      clear hm
      go_enter Try.func17, Try.ntmps17
      go_wp2_with (first
        | (go_at_call 37; refine (HK.out _).mono ?_; rintro e w2 ⟨rfl, rfl⟩))
      go_ret
      exact ⟨ret_bool HM.out.symm, rfl⟩
    · have HM : Hid (mayP (s.b0.length : Int) a z = false) := by
        show _ = _
        rw [hm]
        exact decide_eq_false (by omega)
      clear hm
      go_enter Try.func17, Try.ntmps17
      go_wp2_with (first
        | (go_at_call 37; refine (HK.out _).mono ?_; rintro e w2 ⟨rfl, rfl⟩))
      go_ret
      exact ⟨ret_bool HM.out.symm, rfl⟩
end Go.Proofs.Yteoemjhhjnkkiaa
