/- Layer 9: every text's instruction, or that there is none: the law, over the tables; and as the claim asks it. -/
import Derived.Test.YtdpbiboldmoadaaDoorRows
import Derived.Test.YtdpbiboldmoadaaDoorBa
import Derived.Test.YtdpbiboldmoadaaDoorTi
import Derived.Test.YtdpbiboldmoadaaDoorLa9
import Derived.Test.YtdpbiboldmoadaaDoorRz9
import Derived.WalkKit
import Derived.ProofKit
import Derived.OpenShut
import Derived.Laws.Cover2
set_option maxRecDepth 100000
namespace Go.Proofs.YtdpbiboldmoadaaDoor
open Go.ChangeShapes Go.WideShapes Go.ChangeAt Go.RowKit Go.Deep

theorem tab9_lay {W : World} (hL : laidMetH Tryd.prog Rows.showReadsRow.laid W) : Tab9 W := by
  have hp : (Rows.showReadsRow.laid.all fun x => x.2.handleName?.isNone) = true := by kernel_rfl
  have h2 := flat_blk (d := Rows.laid_internal_strconv_uint64pow10) (g := 5) (t := 100) 8 hL (List.mem_of_getElem? (i := 2) rfl) hp (by kernel_rfl) (by kernel_rfl) (by kernel_rfl)
  have e2 : flatD 8 Rows.laid_internal_strconv_uint64pow10 = Lib.pow10Tab.map (Value.int .u64) := by kernel_rfl
  rw [e2] at h2
  have h3 := flat_blk (d := Rows.laid_undertow_ops_lasts) (g := 2) (t := 74) 8 hL (List.mem_of_getElem? (i := 3) rfl) hp (by kernel_rfl) (by kernel_rfl) (by kernel_rfl)
  have e3 : flatD 8 Rows.laid_undertow_ops_lasts = lsL.map (Value.int .i64) := by kernel_rfl
  rw [e3] at h3
  have h4 := flat_blk (d := Rows.laid_undertow_ops_names) (g := 0) (t := 65) 8 hL (List.mem_of_getElem? (i := 4) rfl) hp (by kernel_rfl) (by kernel_rfl) (by kernel_rfl)
  have e4 : flatD 8 Rows.laid_undertow_ops_names = n0L.map tx := by kernel_rfl
  rw [e4] at h4
  have h5 := tabI_of (d := Rows.laid_undertow_field_layouts) (g := 4) (t := 95) tabL hL (List.mem_of_getElem? (i := 5) rfl) hp (by kernel_rfl) (by kernel_rfl) (by kernel_rfl) (by kernel_rfl)
  have h6 := flat_met (d := Rows.laid_undertow_show_shapes) (g := 1) (t := 66) 8 hL (List.mem_of_getElem? (i := 6) rfl) hp (by kernel_rfl) (by kernel_rfl) (by kernel_rfl)
  have e6 : flatD 8 Rows.laid_undertow_show_shapes = shpL.map tx := by kernel_rfl
  rw [e6] at h6
  have hS : TabS W := fun i hi => h6 i _ (by rw [List.getElem?_map, List.getD_eq_getElem?_getD, List.getElem?_eq_getElem hi]; rfl)
  exact ⟨⟨h3, h5⟩, h4, hS, h2⟩
theorem bs_dat (q : ByteArray) : bs q.data.toList = q := by
  unfold bs
  rw [Array.toArray_toList]
theorem read_qq (q : ByteArray) (hq : q.size ≤ 100000) (w : World) (T : Tab9 w) : Calls Tryd.prog 11 #[.string q] w (RetRd w (readC q.data.toList)) := by
  have := read_fill q.data.toList hq w T
  unfold tx at this
  rw [bs_dat] at this
  exact this
set_option maxHeartbeats 4000000 in
theorem reads_law {W : World} (T : Tab9 W) (q : ByteArray) : Calls Tryd.prog 4 #[.string q] W fun e w' => e = .returned (.bool true) ∧ Below W.heap.size W w' := by
  have HB0 : Hid (BW W W) := Below.refl _ _
  have kA := fun x (h : BW W x) => alive9_any T x h
  by_cases hq : 200 < q.size
  · have hqI : (200 : Int) < q.size := by omega
    go_enter Tryd.func4, Tryd.ntmps4
    go_upto_region 3 with (first
      | (go_at_call 7; refine (kA _ HB0.out).mono ?_; rintro e w1 ⟨rfl, hb, _⟩; have HB1 := Lib.hid hb; clear hb))
    go_wp2_with (first
      | (go_at_call 7; refine (kA _ HB1.out).mono ?_; rintro e w2 ⟨rfl, hb, _⟩; have HB2 := Lib.hid hb; clear hb))
    go_ret
    exact ⟨rfl, HB2.out⟩
  · have hqI : ¬ (200 : Int) < q.size := by omega
    have kD := fun x => rread_any q (by omega) x
    have kC := fun x (h : BW W x) => read_qq q (by omega) x (T.below h)
    obtain ⟨o, ho⟩ : ∃ o, readC q.data.toList = o := ⟨_, rfl⟩
    rw [ho] at kD kC
    clear ho
    obtain ⟨j, hj⟩ : ∃ j, o.getD noIns = j := ⟨_, rfl⟩
    have kC' : ∀ x (h : BW W x), Calls Tryd.prog 11 #[.string q] x fun e w' => e = .returned (.tuple #[insV j, .int .i64 (if o.isSome then 0 else 5)]) ∧ Below x.heap.size x w' := fun x h => by rw [← hj]; exact kC x h
    rw [hj] at kD
    have hee := fun x => run_eql_ins j j x
    rw [show eqB j j = true from (eqB_iff j j).2 rfl] at hee
    clear kC hj
    obtain ⟨op, rd, rs1, rs2, imm, aq, rl, pred, succ⟩ := j
    unfold insV at kC' kD
    unfold insCells at hee
    simp only at kC' kD hee
    cases hs : o.isSome
    all_goals
      rw [hs] at kC' kD
      simp only [if_true, Bool.false_eq_true, if_false] at kC'
      clear hs
      go_enter Tryd.func4, Tryd.ntmps4
      go_upto_region 3 with (first
        | (go_at_call 7; refine (kA _ HB0.out).mono ?_; rintro e w1 ⟨rfl, hb, _⟩; have HB1 := Lib.hid hb; clear hb))
    all_goals
      go_upto_region 6 with (first
        | (go_at_call 11; refine (kC' _ HB1.out).mono ?_; rintro e w2 ⟨rfl, hb⟩; have HB2 := Lib.hid (HB1.out.on hb); clear hb))
      have Q3 := Blk.new #[.int .i64 op, .int .i64 rd, .int .i64 rs1, .int .i64 rs2, .int .i64 imm, .bool aq, .bool rl, .int .i64 pred, .int .i64 succ] 23 w2
      have HB3 := Lib.hid (HB2.out.new (.cells #[.int .i64 op, .int .i64 rd, .int .i64 rs1, .int .i64 rs2, .int .i64 imm, .bool aq, .bool rl, .int .i64 pred, .int .i64 succ] 23))
      clear HB2
      generalize w2.alloc (.cells _ 23) = w3 at *
      generalize w2.heap.size = g3 at *
      go_upto_region 7 with (first
        | (go_at_call 12; refine (kD _).mono ?_; rintro e w4 ⟨rfl, hb⟩; have HB4 := Lib.hid (HB3.out.on hb); have Q4 := Q3.on hb; clear hb))
      have Q5 := Blk.new #[.int .i64 op, .int .i64 rd, .int .i64 rs1, .int .i64 rs2, .int .i64 imm, .bool aq, .bool rl, .int .i64 pred, .int .i64 succ] 23 w4
      have Q4b := Q4.alloc (.cells #[.int .i64 op, .int .i64 rd, .int .i64 rs1, .int .i64 rs2, .int .i64 imm, .bool aq, .bool rl, .int .i64 pred, .int .i64 succ] 23)
      have HB5 := Lib.hid (HB4.out.new (.cells #[.int .i64 op, .int .i64 rd, .int .i64 rs1, .int .i64 rs2, .int .i64 imm, .bool aq, .bool rl, .int .i64 pred, .int .i64 succ] 23))
      clear HB4 Q4 Q3
      generalize w4.alloc (.cells _ 23) = w5 at *
      generalize w4.heap.size = g5 at *
      go_wp2_with (first
        | (go_at_call 7; refine (kA _ HB5.out).mono ?_; rintro e w6 ⟨rfl, hb, hbb⟩; have HB6 := Lib.hid hb; have Q6 := Q4b.on hbb; have Q7 := Q5.on hbb; have c0 := Q6.cell 0; have d0 := Q7.cell 0; have c1 := Q6.cell 1; have d1 := Q7.cell 1; have c2 := Q6.cell 2; have d2 := Q7.cell 2; have c3 := Q6.cell 3; have d3 := Q7.cell 3; have c4 := Q6.cell 4; have d4 := Q7.cell 4; have c5 := Q6.cell 5; have d5 := Q7.cell 5; have c6 := Q6.cell 6; have d6 := Q7.cell 6; have c7 := Q6.cell 7; have d7 := Q7.cell 7; have c8 := Q6.cell 8; have d8 := Q7.cell 8; clear hb hbb))
      go_ret
      exact ⟨rfl, HB6.out⟩

/-! ### The law as the claim asks it -/
theorem showReads_law (q : ByteArray) (W : World) (hL : laidMetH Tryd.prog Rows.showReadsRow.laid W) :
    Calls Tryd.prog 4 #[.string q] W fun e w' => e = .returned (.bool true) ∧ Below W.heap.size W w' := reads_law (tab9_lay hL) q
end Go.Proofs.YtdpbiboldmoadaaDoor
