/- Layer 9: the laws of numbers, texts, and back, over the tables. -/
import Derived.Test.YtdpbiboldmoadaaDoorLa9
set_option maxRecDepth 100000
namespace Go.Proofs.YtdpbiboldmoadaaDoor
open Go.RowKit

theorem bs_data (q : ByteArray) : bs q.data.toList = q := by
  unfold bs
  rw [Array.toArray_toList]
theorem number_q (q : ByteArray) (hq : q.size ≤ 100000) (w : World) : Calls Tryd.prog 13 #[.string q] w fun e w' => e = .returned (retO (numV q.data.toList)) ∧ Below w.heap.size w w' := by
  have := number_c q.data.toList hq w
  unfold tx at this
  rw [bs_data] at this
  exact this
theorem reg_q (q : ByteArray) (hq : q.size ≤ 100000) (w : World) : Calls Tryd.prog 15 #[.string q] w fun e w' => e = .returned (retO (regS q.data.toList)) ∧ Below w.heap.size w w' := by
  have := reg_c q.data.toList hq w
  unfold tx at this
  rw [bs_data] at this
  exact this
theorem read_q (q : ByteArray) (hq : q.size ≤ 100000) (w : World) (T : Tab9 w) : Calls Tryd.prog 11 #[.string q] w (RetRd w (readC q.data.toList)) := by
  have := read_fill q.data.toList hq w T
  unfold tx at this
  rw [bs_data] at this
  exact this
theorem digI_len9 (n : Int) : (digI n).length ≤ 21 := by
  unfold digI
  split
  · have := digF_len 20 n.natAbs; unfold digU; simp; omega
  · have := digF_len 20 n.natAbs; unfold digU; omega
set_option maxHeartbeats 2000000 in
theorem numbers_law {W : World} (T : Tab9 W) (q : ByteArray) (n : Int) (hn : I64 n) : Calls Tryd.prog 5 #[.string q, .int .i64 n] W fun e w' => e = .returned (.bool true) ∧ Below W.heap.size W w' := by
  have HB0 : Hid (BW W W) := Below.refl _ _
  have kA := fun x (h : BW W x) => alive9_any T x h
  by_cases hq : 200 < q.size
  · have hqI : (200 : Int) < q.size := by omega
    go_enter Tryd.func5, Tryd.ntmps5
    go_upto_region 3 with (first
      | (go_at_call 7; refine (kA _ HB0.out).mono ?_; rintro e w1 ⟨rfl, hb, _⟩; have HB1 := Lib.hid hb; clear hb))
    go_wp2_with (first
      | (go_at_call 7; refine (kA _ HB1.out).mono ?_; rintro e w2 ⟨rfl, hb, _⟩; have HB2 := Lib.hid hb; clear hb))
    go_ret
    exact ⟨rfl, HB2.out⟩
  · have hqI : ¬ (200 : Int) < q.size := by omega
    have k1 := fun x => number_q q (by omega) x
    have k2 := fun x => rnumber_any q x
    have k3 := fun x => reg_q q (by omega) x
    have k4 := fun x => rregister9_any q x
    have k5 := fun x => rdigits_any n hn x
    have k6 := fun x => number_c (digI n) (by have := digI_len9 n; omega) x
    rw [num_digI hn] at k6
    rw [retO_some] at k1 k2 k3 k4
    unfold tx at k5 k6
    have k6' : ∀ x, Calls Tryd.prog 13 #[.string (bs (digI n))] x fun e w' => e = .returned (.tuple #[.int .i64 n, .bool true]) ∧ Below x.heap.size x w' := k6
    clear k6
    generalize bs (digI n) = D at *
    generalize (numV q.data.toList).getD 0 = x1 at *
    generalize (numV q.data.toList).isSome = x2 at *
    generalize (regS q.data.toList).getD 0 = x3 at *
    generalize (regS q.data.toList).isSome = x4 at *
    go_enter Tryd.func5, Tryd.ntmps5
    go_upto_region 3 with (first
      | (go_at_call 7; refine (kA _ HB0.out).mono ?_; rintro e w1 ⟨rfl, hb, _⟩; have HB1 := Lib.hid hb; clear hb))
    go_upto_region 9 with (first
      | (go_at_call 13; refine (k1 _).mono ?_; rintro e w2 ⟨rfl, hb⟩; have HB2 := Lib.hid (HB1.out.on hb); clear hb)
      | (go_at_call 14; refine (k2 _).mono ?_; rintro e w' ⟨rfl, rfl⟩)
      | (go_at_call 15; refine (k3 _).mono ?_; rintro e w3 ⟨rfl, hb⟩; have HB3 := Lib.hid (HB2.out.on hb); clear hb)
      | (go_at_call 16; refine (k4 _).mono ?_; rintro e w' ⟨rfl, rfl⟩))
    clear k1 k2 k3 k4
    go_wp2_with (first
      | (go_at_call 17; refine (k5 _).mono ?_; rintro e w4 ⟨rfl, hb⟩; have HB4 := Lib.hid (HB3.out.on hb); clear hb)
      | (go_at_call 13; refine (k6' _).mono ?_; rintro e w5 ⟨rfl, hb⟩; have HB5 := Lib.hid (HB4.out.on hb); clear hb)
      | (go_at_call 7; refine (kA _ HB5.out).mono ?_; rintro e w6 ⟨rfl, hb, _⟩; have HB6 := Lib.hid hb; clear hb))
    all_goals
      go_ret
      exact ⟨rfl, HB6.out⟩
set_option maxHeartbeats 2000000 in
theorem texts_law {W : World} (T : Tab9 W) (i : Ins) (ho : I64 i.op) : Calls Tryd.prog 3 #[insV i] W fun e w' => e = .returned (.bool true) ∧ Below W.heap.size W w' := by
  have kA := fun x (h : BW W x) => alive9_any T x h
  have kR := fun x => right_any i ho x
  have HJ0 := jn_new i W
  cases hr : rgtB i with
  | false =>
    have kT := fun x (h : BW W x) => text_no i ho hr x (T.below h)
    have hE : (bs []).toList.isEmpty = true := by rw [bs_list]; rfl
    rw [hr] at kR
    clear hr
    obtain ⟨op, rd, rs1, rs2, imm, aq, rl, pred, succ⟩ := i
    unfold insV insCells tx at *
    simp only at *
    go_enter Tryd.func3, Tryd.ntmps3
    go_upto_region 1 with (fail)
    generalize W.alloc (.cells _ 23) = w1 at *
    obtain ⟨g, hg⟩ : ∃ g, W.heap.size = g := ⟨_, rfl⟩
    have HJ : Jn W ⟨op, rd, rs1, rs2, imm, aq, rl, pred, succ⟩ g w1 := by rw [← hg]; exact HJ0
    rw [hg]
    clear hg HJ0
    go_upto_region 3 with (first
      | (go_at_call 7; refine (kA _ HJ.1).mono ?_; rintro e w2 ⟨rfl, _, hb⟩; have HJ2 := HJ.on hb; clear hb))
    obtain ⟨c0, c1, c2, c3, c4, c5, c6, c7, c8⟩ := HJ2.cells
    simp only at c0 c1 c2 c3 c4 c5 c6 c7 c8
    go_upto_region 4 with (first
      | (go_at_call 8; refine (kT _ HJ2.1).mono ?_; rintro e w3 ⟨rfl, hb⟩; have HJ3 := HJ2.on hb; clear hb))
    clear c0 c1 c2 c3 c4 c5 c6 c7 c8
    obtain ⟨c0, c1, c2, c3, c4, c5, c6, c7, c8⟩ := HJ3.cells
    simp only at c0 c1 c2 c3 c4 c5 c6 c7 c8
    go_wp2_with (first
      | (go_at_call 9; refine (kR _).mono ?_; rintro e w4 ⟨rfl, hb⟩; have HJ4 := HJ3.on hb; clear hb)
      | (go_at_call 7; refine (kA _ HJ4.1).mono ?_; rintro e w5 ⟨rfl, _, hb⟩; have HJ5 := HJ4.on hb; clear hb))
    go_ret
    exact ⟨rfl, HJ5.1⟩
  | true =>
    have hR := (rgt_iff i).1 hr
    have kT := fun x (h : BW W x) => text_ok i hR x (T.below h)
    have kU := fun x => rtext_any i hR x
    rw [hr] at kR
    clear hr hR
    generalize textT i = TT at *
    have hbt : ((bs TT).toList == (bs TT).toList) = true := by simp
    unfold tx at *
    generalize bs TT = tt at *
    obtain ⟨op, rd, rs1, rs2, imm, aq, rl, pred, succ⟩ := i
    unfold insV insCells at *
    simp only at *
    go_enter Tryd.func3, Tryd.ntmps3
    go_upto_region 1 with (fail)
    generalize W.alloc (.cells _ 23) = w1 at *
    obtain ⟨g, hg⟩ : ∃ g, W.heap.size = g := ⟨_, rfl⟩
    have HJ : Jn W ⟨op, rd, rs1, rs2, imm, aq, rl, pred, succ⟩ g w1 := by rw [← hg]; exact HJ0
    rw [hg]
    clear hg HJ0
    go_upto_region 3 with (first
      | (go_at_call 7; refine (kA _ HJ.1).mono ?_; rintro e w2 ⟨rfl, _, hb⟩; have HJ2 := HJ.on hb; clear hb))
    obtain ⟨c0, c1, c2, c3, c4, c5, c6, c7, c8⟩ := HJ2.cells
    simp only at c0 c1 c2 c3 c4 c5 c6 c7 c8
    go_upto_region 4 with (first
      | (go_at_call 8; refine (kT _ HJ2.1).mono ?_; rintro e w3 ⟨rfl, hb⟩; have HJ3 := HJ2.on hb; clear hb))
    clear c0 c1 c2 c3 c4 c5 c6 c7 c8
    obtain ⟨c0, c1, c2, c3, c4, c5, c6, c7, c8⟩ := HJ3.cells
    simp only at c0 c1 c2 c3 c4 c5 c6 c7 c8
    go_upto_region 6 with (first
      | (go_at_call 9; refine (kR _).mono ?_; rintro e w4 ⟨rfl, hb⟩; have HJ4 := HJ3.on hb; clear hb))
    clear c0 c1 c2 c3 c4 c5 c6 c7 c8
    go_wp2_with (first
      | (go_at_call 7; refine (kA _ HJ4.1).mono ?_; rintro e w5 ⟨rfl, _, hb⟩; have HJ5 := HJ4.on hb; obtain ⟨c0, c1, c2, c3, c4, c5, c6, c7, c8⟩ := HJ5.cells; simp only at c0 c1 c2 c3 c4 c5 c6 c7 c8; clear hb)
      | (go_at_call 10; refine (kU _).mono ?_; rintro e w6 ⟨rfl, hb⟩; have HJ6 := HJ5.on hb; clear hb))
    go_ret
    exact ⟨rfl, HJ6.1⟩
end Go.Proofs.YtdpbiboldmoadaaDoor
