/- The program's set and readSet. -/
import Derived.Test.YtdpbiboldmoadaaDoorKs
import Derived.Test.YtdpbiboldmoadaaDoorRt0
import Derived.Deep.LoopGhost
import Derived.Lib.SmallJoins
set_option maxRecDepth 100000
namespace Go.Proofs.YtdpbiboldmoadaaDoor
open Go.RowKit

def letL : List UInt8 := [105, 111, 114, 119]
/-- The letters of a set's first k bits. -/
def preS (n : Int) : Nat → List UInt8
  | 0 => []
  | k + 1 => preS n k ++ (if n / 2 ^ (3 - k) % 2 = 1 then [letL.getD k 0] else [])
theorem pre_set : ∀ n : Fin 16, n.val ≠ 0 → setT (n.val : Int) = preS (n.val : Int) 4 := by decide +kernel
theorem pre_len (n : Int) (k : Nat) : (preS n k).length ≤ k := by
  induction k with
  | zero => exact Nat.le_refl _
  | succ k ih =>
    rw [preS, List.length_append]
    split <;> simp <;> omega
def cellsU8 (l : List UInt8) : List Value := l.map fun c => .int .u8 (c.toNat : Int)
theorem conv_own {w : World} {base m : Nat} {v : Value} {l : List UInt8} (h : w.ownsRow base 5 1 v m (cellsU8 l)) (hl : 0 < l.length) : (convert 44 9 v).run Tryd.prog w = .ok (tx l) w := by
  have hm : m = l.length := by have := h.1; unfold cellsU8 at this; rw [List.length_map] at this; omega
  subst hm
  obtain ⟨A, c, rfl, hr⟩ := own_form h
  rcases hr with e | ⟨b, off, rfl, hlt, hc⟩
  · exfalso
    have := congrArg List.length e
    unfold cellsU8 at this
    rw [List.length_map, List.length_nil] at this
    omega
  · refine run_convert_bytes_back (P := Tryd.prog) w 44 9 5 ⟨b, off, none⟩ c l (by kernel_rfl) (by kernel_rfl) (by kernel_rfl) ?_
    intro j hj
    have hx : (cellsU8 l)[j]? = some (.int .u8 (l[j].toNat : Int)) := by
      unfold cellsU8
      rw [List.getElem?_map, List.getElem?_eq_getElem hj]
      rfl
    have := hc j _ hx
    by_cases h0 : j = 0
    · subst h0; simpa [Addr.add] using this
    · simpa [Addr.add, h0] using this
theorem bits_at : ∀ n : Fin 16, ∀ k : Fin 4, (bits BinOp.and IntKind.i64 (n.val : Int) (8 / 2 ^ k.val) != 0) = decide ((n.val : Int) / 2 ^ (3 - k.val) % 2 = 1) := by decide +kernel
set_option maxHeartbeats 2000000 in
theorem sset_c (n : Int) (h : 0 ≤ n ∧ n < 16) (w : World) : Calls Tryd.prog 46 #[.int .i64 n] w fun e w' => e = .returned (tx (setT n)) ∧ Below w.heap.size w w' := by
  by_cases h0 : n = 0
  · subst h0
    go_enter Tryd.func46, Tryd.ntmps46
    go_wp2
    go_ret
    exact ⟨rfl, Below.refl _ _⟩
  obtain ⟨i0, hi, hz0, hz1, hz2⟩ := info_parts Tryd.info5
  have HB : Below w.heap.size w w := Below.refl _ _
  have hb0 : (n == 0) = false := by simpa using h0
  have hcv := Lib.run_convert_bytes_const (P := Tryd.prog) w 44 5 #[.int .u8 105, .int .u8 111, .int .u8 114, .int .u8 119] 4 4 Tryd.underlying44 Tryd.underlying5
  have HC : ∀ k, k < 4 → (w.alloc (.cells #[.int .u8 105, .int .u8 111, .int .u8 114, .int .u8 119] 5 (4, 5))).cell? ⟨w.heap.size, k, none⟩ = some (.int .u8 ((letL.getD k 0).toNat : Int)) := by
    intro k hk
    have hk : k = 0 ∨ k = 1 ∨ k = 2 ∨ k = 3 := by omega
    rw [World.cell?_alloc_mark]
    rcases hk with rfl | rfl | rfl | rfl <;> rfl
  have HB1 : Below w.heap.size w (w.alloc (.cells #[.int .u8 105, .int .u8 111, .int .u8 114, .int .u8 119] 5 (4, 5))) := HB.alloc (Nat.le_refl _) _
  have hg1 : w.heap.size < (w.alloc (.cells #[.int .u8 105, .int .u8 111, .int .u8 114, .int .u8 119] 5 (4, 5))).heap.size := by simp
  go_enter Tryd.func46, Tryd.ntmps46
  go_wp2
  clear hcv
  generalize w.alloc (.cells #[.int .u8 105, .int .u8 111, .int .u8 114, .int .u8 119] 5 (4, 5)) = w1 at *
  have HV := Lib.hid (pre_set ⟨n.toNat, by omega⟩ (by simp; omega))
  simp only [show ((n.toNat : Nat) : Int) = n by omega] at HV
  obtain ⟨g, hg⟩ : ∃ g, w.heap.size = g := ⟨_, rfl⟩
  rw [hg] at HC hg1 ⊢
  clear hg
  go_loopw [3, 11] (fun o i wr => ∃ (k : Nat), i = .int .i64 k ∧ k ≤ 4 ∧ Hid (wr.ownsRow w1.heap.size 5 1 o (preS n k).length (cellsU8 (preS n k))) ∧ Hid (Below w1.heap.size w1 wr)) (fun _ i _ => 4 - (intOf i).toNat)
  case atStart => exact ⟨0, rfl, by omega, World.ownsRow_nil _ _ _ _, Below.refl _ _⟩
  case round =>
    obtain ⟨k, rfl, hk, HO, HBR⟩ := hrel
    have hcs : k = 0 ∨ k = 1 ∨ k = 2 ∨ k = 3 ∨ k = 4 := by omega
    have BT := fun (k : Fin 4) => bits_at ⟨n.toNat, by omega⟩ k
    simp only [show ((n.toNat : Nat) : Int) = n by omega] at BT
    rcases hcs with rfl | rfl | rfl | rfl | rfl
    · have hc : wr.cell? ⟨g, 0, none⟩ = some (.int .u8 105) := by rw [HBR.out.cell (p := ⟨g, 0, none⟩) hg1]; exact HC 0 (by decide)
      have bt : (bits BinOp.and IntKind.i64 n 8 != 0) = decide (n / 2 ^ (3 - 0) % 2 = 1) := BT 0
      clear BT HC
      by_cases hb : n / 2 ^ (3 - 0) % 2 = 1
      · have hP : preS n (0 + 1) = preS n 0 ++ [105] := by show preS n _ ++ (if _ then _ else _) = _; rw [if_pos hb]; rfl
        rw [decide_eq_true hb] at bt
        have hl4 := pre_len n 0
        obtain ⟨L, hL⟩ : ∃ L, preS n 0 = L := ⟨_, rfl⟩
        obtain ⟨M, hM⟩ : ∃ M, preS n (0 + 1) = M := ⟨_, rfl⟩
        rw [hL] at hP HO hl4
        rw [hM] at hP
        clear hb hL
        go_wp2_with (first
          | (at_builtin; refine wpList_append_own _ rfl _ _ 44 rfl w1.heap.size 5 i0 (.int .u8 0) 1 1 Tryd.underlying44 hi hz0 hz1 hz2 rfl (by decide) _ _ _ rfl (HO.out.alloc _) ⟨wr.heap.size, 0, none⟩ 1 1 [.int .u8 105] rfl rfl (cell_new _ _ _) (by simp [Value.oneCell']) (by unfold maxLen; omega) (by omega) (by have := HBR.out.size; simp; omega) ?_))
        intro v1 wa hown hgrow hnn
        clear hnn
        have HBB : Hid (Below w1.heap.size w1 wa) := (HBR.out.alloc HBR.out.size _).grown hgrow (by have := HBR.out.size; simp; omega) (fun q hq => (HO.out.lt q hq).1)
        have HO1 : Hid (wa.ownsRow w1.heap.size 5 1 v1 M.length (cellsU8 M)) := by show World.ownsRow _ _ _ _ _ _ _; rw [hP, List.length_append, List.length_singleton, show cellsU8 (L ++ [105]) = cellsU8 L ++ [.int .u8 105] by simp [cellsU8]]; exact hown
        clear hown hgrow HO HBR hP
        rw [← hM] at HO1
        go_wp2
        exact ⟨⟨0 + 1, rfl, by omega, HO1, HBB⟩, by simp [intOf]⟩
      · have hP : preS n (0 + 1) = preS n 0 := by show preS n _ ++ (if _ then _ else _) = _; rw [if_neg hb, List.append_nil]
        rw [decide_eq_false hb] at bt
        clear hb
        go_wp2
        exact ⟨⟨0 + 1, rfl, by omega, by rw [hP]; exact HO, HBR⟩, by simp [intOf]⟩
    · have hc : wr.cell? ⟨g, 1, none⟩ = some (.int .u8 111) := by rw [HBR.out.cell (p := ⟨g, 1, none⟩) hg1]; exact HC 1 (by decide)
      have bt : (bits BinOp.and IntKind.i64 n 4 != 0) = decide (n / 2 ^ (3 - 1) % 2 = 1) := BT 1
      clear BT HC
      by_cases hb : n / 2 ^ (3 - 1) % 2 = 1
      · have hP : preS n (1 + 1) = preS n 1 ++ [111] := by show preS n _ ++ (if _ then _ else _) = _; rw [if_pos hb]; rfl
        rw [decide_eq_true hb] at bt
        have hl4 := pre_len n 1
        obtain ⟨L, hL⟩ : ∃ L, preS n 1 = L := ⟨_, rfl⟩
        obtain ⟨M, hM⟩ : ∃ M, preS n (1 + 1) = M := ⟨_, rfl⟩
        rw [hL] at hP HO hl4
        rw [hM] at hP
        clear hb hL
        go_wp2_with (first
          | (at_builtin; refine wpList_append_own _ rfl _ _ 44 rfl w1.heap.size 5 i0 (.int .u8 0) 1 1 Tryd.underlying44 hi hz0 hz1 hz2 rfl (by decide) _ _ _ rfl (HO.out.alloc _) ⟨wr.heap.size, 0, none⟩ 1 1 [.int .u8 111] rfl rfl (cell_new _ _ _) (by simp [Value.oneCell']) (by unfold maxLen; omega) (by omega) (by have := HBR.out.size; simp; omega) ?_))
        intro v1 wa hown hgrow hnn
        clear hnn
        have HBB : Hid (Below w1.heap.size w1 wa) := (HBR.out.alloc HBR.out.size _).grown hgrow (by have := HBR.out.size; simp; omega) (fun q hq => (HO.out.lt q hq).1)
        have HO1 : Hid (wa.ownsRow w1.heap.size 5 1 v1 M.length (cellsU8 M)) := by show World.ownsRow _ _ _ _ _ _ _; rw [hP, List.length_append, List.length_singleton, show cellsU8 (L ++ [111]) = cellsU8 L ++ [.int .u8 111] by simp [cellsU8]]; exact hown
        clear hown hgrow HO HBR hP
        rw [← hM] at HO1
        go_wp2
        exact ⟨⟨1 + 1, rfl, by omega, HO1, HBB⟩, by simp [intOf]⟩
      · have hP : preS n (1 + 1) = preS n 1 := by show preS n _ ++ (if _ then _ else _) = _; rw [if_neg hb, List.append_nil]
        rw [decide_eq_false hb] at bt
        clear hb
        go_wp2
        exact ⟨⟨1 + 1, rfl, by omega, by rw [hP]; exact HO, HBR⟩, by simp [intOf]⟩
    · have hc : wr.cell? ⟨g, 2, none⟩ = some (.int .u8 114) := by rw [HBR.out.cell (p := ⟨g, 2, none⟩) hg1]; exact HC 2 (by decide)
      have bt : (bits BinOp.and IntKind.i64 n 2 != 0) = decide (n / 2 ^ (3 - 2) % 2 = 1) := BT 2
      clear BT HC
      by_cases hb : n / 2 ^ (3 - 2) % 2 = 1
      · have hP : preS n (2 + 1) = preS n 2 ++ [114] := by show preS n _ ++ (if _ then _ else _) = _; rw [if_pos hb]; rfl
        rw [decide_eq_true hb] at bt
        have hl4 := pre_len n 2
        obtain ⟨L, hL⟩ : ∃ L, preS n 2 = L := ⟨_, rfl⟩
        obtain ⟨M, hM⟩ : ∃ M, preS n (2 + 1) = M := ⟨_, rfl⟩
        rw [hL] at hP HO hl4
        rw [hM] at hP
        clear hb hL
        go_wp2_with (first
          | (at_builtin; refine wpList_append_own _ rfl _ _ 44 rfl w1.heap.size 5 i0 (.int .u8 0) 1 1 Tryd.underlying44 hi hz0 hz1 hz2 rfl (by decide) _ _ _ rfl (HO.out.alloc _) ⟨wr.heap.size, 0, none⟩ 1 1 [.int .u8 114] rfl rfl (cell_new _ _ _) (by simp [Value.oneCell']) (by unfold maxLen; omega) (by omega) (by have := HBR.out.size; simp; omega) ?_))
        intro v1 wa hown hgrow hnn
        clear hnn
        have HBB : Hid (Below w1.heap.size w1 wa) := (HBR.out.alloc HBR.out.size _).grown hgrow (by have := HBR.out.size; simp; omega) (fun q hq => (HO.out.lt q hq).1)
        have HO1 : Hid (wa.ownsRow w1.heap.size 5 1 v1 M.length (cellsU8 M)) := by show World.ownsRow _ _ _ _ _ _ _; rw [hP, List.length_append, List.length_singleton, show cellsU8 (L ++ [114]) = cellsU8 L ++ [.int .u8 114] by simp [cellsU8]]; exact hown
        clear hown hgrow HO HBR hP
        rw [← hM] at HO1
        go_wp2
        exact ⟨⟨2 + 1, rfl, by omega, HO1, HBB⟩, by simp [intOf]⟩
      · have hP : preS n (2 + 1) = preS n 2 := by show preS n _ ++ (if _ then _ else _) = _; rw [if_neg hb, List.append_nil]
        rw [decide_eq_false hb] at bt
        clear hb
        go_wp2
        exact ⟨⟨2 + 1, rfl, by omega, by rw [hP]; exact HO, HBR⟩, by simp [intOf]⟩
    · have hc : wr.cell? ⟨g, 3, none⟩ = some (.int .u8 119) := by rw [HBR.out.cell (p := ⟨g, 3, none⟩) hg1]; exact HC 3 (by decide)
      have bt : (bits BinOp.and IntKind.i64 n 1 != 0) = decide (n / 2 ^ (3 - 3) % 2 = 1) := BT 3
      clear BT HC
      by_cases hb : n / 2 ^ (3 - 3) % 2 = 1
      · have hP : preS n (3 + 1) = preS n 3 ++ [119] := by show preS n _ ++ (if _ then _ else _) = _; rw [if_pos hb]; rfl
        rw [decide_eq_true hb] at bt
        have hl4 := pre_len n 3
        obtain ⟨L, hL⟩ : ∃ L, preS n 3 = L := ⟨_, rfl⟩
        obtain ⟨M, hM⟩ : ∃ M, preS n (3 + 1) = M := ⟨_, rfl⟩
        rw [hL] at hP HO hl4
        rw [hM] at hP
        clear hb hL
        go_wp2_with (first
          | (at_builtin; refine wpList_append_own _ rfl _ _ 44 rfl w1.heap.size 5 i0 (.int .u8 0) 1 1 Tryd.underlying44 hi hz0 hz1 hz2 rfl (by decide) _ _ _ rfl (HO.out.alloc _) ⟨wr.heap.size, 0, none⟩ 1 1 [.int .u8 119] rfl rfl (cell_new _ _ _) (by simp [Value.oneCell']) (by unfold maxLen; omega) (by omega) (by have := HBR.out.size; simp; omega) ?_))
        intro v1 wa hown hgrow hnn
        clear hnn
        have HBB : Hid (Below w1.heap.size w1 wa) := (HBR.out.alloc HBR.out.size _).grown hgrow (by have := HBR.out.size; simp; omega) (fun q hq => (HO.out.lt q hq).1)
        have HO1 : Hid (wa.ownsRow w1.heap.size 5 1 v1 M.length (cellsU8 M)) := by show World.ownsRow _ _ _ _ _ _ _; rw [hP, List.length_append, List.length_singleton, show cellsU8 (L ++ [119]) = cellsU8 L ++ [.int .u8 119] by simp [cellsU8]]; exact hown
        clear hown hgrow HO HBR hP
        rw [← hM] at HO1
        go_wp2
        exact ⟨⟨3 + 1, rfl, by omega, HO1, HBB⟩, by simp [intOf]⟩
      · have hP : preS n (3 + 1) = preS n 3 := by show preS n _ ++ (if _ then _ else _) = _; rw [if_neg hb, List.append_nil]
        rw [decide_eq_false hb] at bt
        clear hb
        go_wp2
        exact ⟨⟨3 + 1, rfl, by omega, by rw [hP]; exact HO, HBR⟩, by simp [intOf]⟩
    · have hne : 0 < (preS n 4).length := by
        rw [← HV.out]
        have := (allW_set ⟨h.1, h.2⟩).2
        cases hs : setT n with
        | nil => exact absurd hs this
        | cons a t => simp
      have hcv := conv_own HO.out hne
      unfold tx at hcv
      clear HC BT
      go_wp2
      go_ret
      exact ⟨ret_tx HV.out.symm, HB1.trans (HBR.out.mono (Below.size HB1))⟩

theorem bs_beq (a b : List UInt8) : ((bs a).toList == (bs b).toList) = decide (a = b) := by
  rw [bs_list, bs_list]
  by_cases h : a = b
  · rw [decide_eq_true h, h]; simp
  · rw [decide_eq_false h]; simpa using h
theorem setO_found {p : List UInt8} {k : Nat} (hk : k < 16) (h : setT (k : Int) = p) : setO p = some (k : Int) := (setO_iff p k).2 ⟨⟨by omega, by omega⟩, h⟩
theorem setO_none {p : List UInt8} (h : ∀ k : Nat, k < 16 → setT (k : Int) ≠ p) : setO p = none := by
  cases hs : setO p with
  | none => rfl
  | some n =>
    obtain ⟨hn, he⟩ := (setO_iff p n).1 hs
    refine absurd ?_ (h n.toNat (by omega))
    rw [show ((n.toNat : Nat) : Int) = n by omega]
    exact he
set_option maxHeartbeats 1000000 in
theorem readSet_c (p : List UInt8) (w : World) : Calls Tryd.prog 53 #[tx p] w fun e w' => e = .returned (retO (setO p)) ∧ Below w.heap.size w w' := by
  have HB : BW w w := Below.refl _ _
  have KS := fun (k : Nat) x (hk : k < 16) (h : BW w x) => (sset_c k ⟨by omega, by omega⟩ x).mono fun e w' hh => (⟨hh.1, h.on hh.2⟩ : e = .returned (tx (setT k)) ∧ BW w w')
  unfold tx at KS ⊢
  go_enter Tryd.func53, Tryd.ntmps53
  go_wp2
  go_loopw [5] (fun i wr => ∃ (k : Nat), i = .int .i64 k ∧ k ≤ 16 ∧ Hid (∀ j : Nat, j < k → setT (j : Int) ≠ p) ∧ Hid (BW w wr)) (fun i _ => 16 - (intOf i).toNat)
  case atStart => exact ⟨0, rfl, by omega, fun j hj => absurd hj (by omega), HB⟩
  case round =>
    obtain ⟨k, rfl, hk, HN, HR⟩ := hrel
    by_cases hlt : k < 16
    · have hltI : (k : Int) < 16 := by omega
      have hS := KS k wr hlt HR.out
      have hbq := bs_beq (setT (k : Int)) p
      have HV := Lib.hid (fun h => setO_found (p := p) hlt h)
      clear KS
      by_cases he : setT (k : Int) = p
      · have hv := HV.out he
        rw [decide_eq_true he] at hbq
        clear he HV HN
        have HVV := Lib.hid hv
        clear hv
        generalize bs (setT (k : Int)) = x at *
        generalize bs p = y at *
        go_wp2_with (first
          | (go_at_call 46; refine hS.mono ?_; rintro e w' ⟨rfl, hb⟩; have HB2 := Lib.hid hb; clear hb))
        go_ret2
        exact ⟨by rw [HVV.out]; rfl, HB2.out⟩
      · rw [decide_eq_false he] at hbq
        have HN2 : Hid (∀ j : Nat, j < k + 1 → setT (j : Int) ≠ p) := fun j hj => by
          rcases Nat.lt_succ_iff_lt_or_eq.1 hj with h | rfl
          · exact HN.out j h
          · exact he
        clear he HV HN
        generalize bs (setT (k : Int)) = x at *
        generalize bs p = y at *
        go_wp2_with (first
          | (go_at_call 46; refine hS.mono ?_; rintro e w' ⟨rfl, hb⟩; have HB2 := Lib.hid hb; clear hb))
        exact ⟨⟨k + 1, by go_num, by omega, HN2, HB2⟩, by simp [intOf]; omega⟩
    · obtain rfl : k = 16 := by omega
      have HV := Lib.hid (setO_none HN.out)
      clear KS
      go_wp2
      go_ret2
      exact ⟨by rw [HV.out]; rfl, HR.out⟩
end Go.Proofs.YtdpbiboldmoadaaDoor
