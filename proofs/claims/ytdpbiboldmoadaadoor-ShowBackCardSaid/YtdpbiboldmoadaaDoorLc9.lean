/- Layer 9: Read of Text, Text of Read, unlike instructions' unlike texts: the law. -/
import Derived.Test.YtdpbiboldmoadaaDoorLb9
set_option maxRecDepth 100000
namespace Go.Proofs.YtdpbiboldmoadaaDoor
open Go.RowKit

/-- In a world behind W: an instruction lies whole in block g. -/
def Ly (W : World) (g : Nat) (i : Ins) (w : World) : Prop := BW W w ∧ Blk (insCells i) 23 g w
theorem Ly.on {W w w' : World} {g : Nat} {i : Ins} (h : Ly W g i w) (hb : Below w.heap.size w w') : Ly W g i w' := ⟨h.1.on hb, h.2.on hb⟩
theorem Ly.cell {W w : World} {g : Nat} {i : Ins} (h : Ly W g i w) (k : Nat) : w.cell? ⟨g, k, none⟩ = (insCells i)[k]? := h.2.cell k
theorem text_tl (i : Ins) (h : Rgt i) : (textT i).length ≤ 1000 := by
  rw [text_parts h.op, List.length_append, List.length_append]
  have h1 := nmO_len i.op
  have h2 := ann_len i.aq i.rl
  have h3 := parts_len i (shpT i.op)
  have h4 := shp_len i.op
  omega
theorem read_back (i : Ins) (h : Rgt i) (w : World) (T : Tab9 w) : Calls Tryd.prog 11 #[tx (textT i)] w fun e w' => e = .returned (.tuple #[insV i, .int .i64 0]) ∧ Below w.heap.size w w' := by
  have := read_fill (textT i) (by have := text_tl i h; omega) w T
  rw [readC_text h] at this
  exact this
theorem run_eql_V (i k : Ins) (w : World) : (binOp .eql 23 (insV i) (insV k)).run Tryd.prog w = .ok (.bool (eqB i k)) w := run_eql_ins i k w
theorem run_neq_V (i k : Ins) (w : World) : (binOp .neq 23 (insV i) (insV k)).run Tryd.prog w = .ok (.bool (!eqB i k)) w := run_neq_ins i k w
set_option maxHeartbeats 4000000 in
theorem back_ff {W : World} (T : Tab9 W) (i k : Ins) (q : ByteArray) (hi : I64 i.op) (hk : I64 k.op) (hq : ¬ 200 < q.size) (ri : rgtB i = false) (rk : rgtB k = false) :
    Calls Tryd.prog 6 #[insV i, insV k, .string q] W fun e w' => e = .returned (.bool true) ∧ Below W.heap.size W w' := by
  have kA := fun x (h : BW W x) => alive9_any T x h
  have hqI : ¬ (200 : Int) < q.size := by omega
  have kTi := fun x (h : BW W x) => text_no i hi ri x (T.below h)
  have kTk := fun x (h : BW W x) => text_no k hk rk x (T.below h)
  have kR := fun x (h : BW W x) => read_q q (by omega) x (T.below h)
  have kX := fun j (hj : Rgt j) x (h : BW W x) => text_ok j hj x (T.below h)
  have hRX := readC_iff q.data.toList
  have hqq := bs_data q
  have j1 := jn_new i W
  have a1 : (W.alloc (.cells (insCells i) 23)).heap.size = W.heap.size + 1 := by simp
  have b2 := Blk.new (insCells k) 23 (W.alloc (.cells (insCells i) 23))
  rw [a1] at b2
  have L1 : Ly W W.heap.size i ((W.alloc (.cells (insCells i) 23)).alloc (.cells (insCells k) 23)) := ⟨j1.1.new _, j1.2.1.alloc _⟩
  have L2 : Ly W (W.heap.size + 1) k ((W.alloc (.cells (insCells i) 23)).alloc (.cells (insCells k) 23)) := ⟨j1.1.new _, b2⟩
  clear j1 a1 b2 T ri rk hi hk
  unfold tx at *
  obtain ⟨op, rd, rs1, rs2, imm, aq, rl, pred, succ⟩ := i
  obtain ⟨xop, xrd, xrs1, xrs2, ximm, xaq, xrl, xpred, xsucc⟩ := k
  unfold insV at *
  unfold insCells at L1 L2
  simp only at *
  go_enter Tryd.func6, Tryd.ntmps6
  go_upto_region 1 with (fail)
  generalize ((W.alloc (.cells _ 23)).alloc (.cells _ 23)) = w1 at *
  obtain ⟨g2, hg2⟩ : ∃ g, W.heap.size + 1 = g := ⟨_, rfl⟩
  rw [hg2] at L2 ⊢
  obtain ⟨g1, hg1⟩ : ∃ g, W.heap.size = g := ⟨_, rfl⟩
  have M1 : Ly W g1 ⟨op, rd, rs1, rs2, imm, aq, rl, pred, succ⟩ w1 := by rw [← hg1]; exact L1
  have M2 : Ly W g2 ⟨xop, xrd, xrs1, xrs2, ximm, xaq, xrl, xpred, xsucc⟩ w1 := L2
  rw [hg1]
  clear hg1 hg2 L1 L2
  go_upto_region 5 with (first
    | (go_at_call 7; refine (kA _ M1.1).mono ?_; rintro e w2 ⟨rfl, _, hb⟩; have N1 := M1.on hb; have N2 := M2.on hb; clear hb))
  have c0 := N1.cell 0
  have c1 := N1.cell 1
  have c2 := N1.cell 2
  have c3 := N1.cell 3
  have c4 := N1.cell 4
  have c5 := N1.cell 5
  have c6 := N1.cell 6
  have c7 := N1.cell 7
  have c8 := N1.cell 8
  simp only [insCells] at c0 c1 c2 c3 c4 c5 c6 c7 c8
  go_upto_region 6 with (first
    | (go_at_call 8; refine (kTi _ N1.1).mono ?_; rintro e w3 ⟨rfl, hb⟩; have O1 := N1.on hb; have O2 := N2.on hb; clear hb))
  clear c0 c1 c2 c3 c4 c5 c6 c7 c8
  go_upto_region 10 with (fail)
  have c0 := O2.cell 0
  have c1 := O2.cell 1
  have c2 := O2.cell 2
  have c3 := O2.cell 3
  have c4 := O2.cell 4
  have c5 := O2.cell 5
  have c6 := O2.cell 6
  have c7 := O2.cell 7
  have c8 := O2.cell 8
  simp only [insCells] at c0 c1 c2 c3 c4 c5 c6 c7 c8
  go_upto_region 11 with (first
    | (go_at_call 8; refine (kTk _ O1.1).mono ?_; rintro e w6 ⟨rfl, hb⟩; have R1 := O1.on hb; have R2 := O2.on hb; clear hb))
  clear c0 c1 c2 c3 c4 c5 c6 c7 c8
  go_upto_region 13 with (fail)
  cases hrd : readC q.data.toList with
  | none =>
    have kR0 : ∀ x (h : BW W x), Calls Tryd.prog 11 #[.string q] x fun e w' => e = .returned (.tuple #[insV noIns, .int .i64 5]) ∧ Below x.heap.size x w' := fun x h => by have := kR x h; rw [hrd] at this; exact this
    clear kR hRX kX hrd
    unfold insV noIns at kR0
    simp only at kR0
    go_upto_region 14 with (first
      | (go_at_call 11; refine (kR0 _ R1.1).mono ?_; rintro e w7 ⟨rfl, hb⟩; have S1 := R1.on hb; clear hb))
    have S2 := S1.on (Below.alloc (Below.refl _ _) (Nat.le_refl _) (.cells #[.int .i64 0, .int .i64 0, .int .i64 0, .int .i64 0, .int .i64 0, .bool false, .bool false, .int .i64 0, .int .i64 0] 23))
    clear S1
    generalize w7.alloc (.cells _ 23) = w8 at *
    go_wp2_with (first
      | (go_at_call 7; refine (kA _ S2.1).mono ?_; rintro e w9 ⟨rfl, hb, _⟩; have S3 := Lib.hid hb; clear hb))
    go_ret
    exact ⟨rfl, S3.out⟩
  | some j =>
    obtain ⟨Rj, ej⟩ := (hRX j).1 hrd
    have kR0 : ∀ x (h : BW W x), Calls Tryd.prog 11 #[.string q] x fun e w' => e = .returned (.tuple #[insV j, .int .i64 0]) ∧ Below x.heap.size x w' := fun x h => by have := kR x h; rw [hrd] at this; exact this
    have kX0 : ∀ x (h : BW W x), Calls Tryd.prog 8 #[insV j] x fun e w' => e = .returned (.tuple #[.string q, .int .i64 0]) ∧ Below x.heap.size x w' := fun x h => by have := kX j Rj x h; rw [ej, hqq] at this; exact this
    have hqe : (q.toList == q.toList) = true := by simp
    clear kR hRX kX hrd Rj ej hqq
    obtain ⟨yop, yrd, yrs1, yrs2, yimm, yaq, yrl, ypred, ysucc⟩ := j
    unfold insV at kR0 kX0
    simp only at kR0 kX0
    go_upto_region 14 with (first
      | (go_at_call 11; refine (kR0 _ R1.1).mono ?_; rintro e w7 ⟨rfl, hb⟩; have S1 := R1.on hb; clear hb))
    have S2 := S1.on (Below.alloc (Below.refl _ _) (Nat.le_refl _) (.cells #[.int .i64 yop, .int .i64 yrd, .int .i64 yrs1, .int .i64 yrs2, .int .i64 yimm, .bool yaq, .bool yrl, .int .i64 ypred, .int .i64 ysucc] 23))
    have S3 := Blk.new #[.int .i64 yop, .int .i64 yrd, .int .i64 yrs1, .int .i64 yrs2, .int .i64 yimm, .bool yaq, .bool yrl, .int .i64 ypred, .int .i64 ysucc] 23 w7
    clear S1
    generalize w7.alloc (.cells _ 23) = w8 at *
    generalize w7.heap.size = g13 at *
    have d0 := S3.cell 0
    have d1 := S3.cell 1
    have d2 := S3.cell 2
    have d3 := S3.cell 3
    have d4 := S3.cell 4
    have d5 := S3.cell 5
    have d6 := S3.cell 6
    have d7 := S3.cell 7
    have d8 := S3.cell 8
    go_wp2_with (first
      | (go_at_call 8; refine (kX0 _ S2.1).mono ?_; rintro e w9 ⟨rfl, hb⟩; have S4 := S2.on hb; clear hb)
      | (go_at_call 7; refine (kA _ S4.1).mono ?_; rintro e w10 ⟨rfl, hb, _⟩; have S5 := Lib.hid hb; clear hb))
    go_ret
    exact ⟨rfl, S5.out⟩
set_option maxHeartbeats 4000000 in
theorem back_ft {W : World} (T : Tab9 W) (i k : Ins) (q : ByteArray) (hi : I64 i.op) (hk : I64 k.op) (hq : ¬ 200 < q.size) (ri : rgtB i = false) (rk : rgtB k = true) :
    Calls Tryd.prog 6 #[insV i, insV k, .string q] W fun e w' => e = .returned (.bool true) ∧ Below W.heap.size W w' := by
  have kA := fun x (h : BW W x) => alive9_any T x h
  have hqI : ¬ (200 : Int) < q.size := by omega
  have kTi := fun x (h : BW W x) => text_no i hi ri x (T.below h)
  have Rk := (rgt_iff k).1 rk
  have kTk := fun x (h : BW W x) => text_ok k Rk x (T.below h)
  clear Rk
  have kR := fun x (h : BW W x) => read_q q (by omega) x (T.below h)
  have kX := fun j (hj : Rgt j) x (h : BW W x) => text_ok j hj x (T.below h)
  have hRX := readC_iff q.data.toList
  have hqq := bs_data q
  have j1 := jn_new i W
  have a1 : (W.alloc (.cells (insCells i) 23)).heap.size = W.heap.size + 1 := by simp
  have b2 := Blk.new (insCells k) 23 (W.alloc (.cells (insCells i) 23))
  rw [a1] at b2
  have L1 : Ly W W.heap.size i ((W.alloc (.cells (insCells i) 23)).alloc (.cells (insCells k) 23)) := ⟨j1.1.new _, j1.2.1.alloc _⟩
  have L2 : Ly W (W.heap.size + 1) k ((W.alloc (.cells (insCells i) 23)).alloc (.cells (insCells k) 23)) := ⟨j1.1.new _, b2⟩
  clear j1 a1 b2 T ri rk hi hk
  unfold tx at *
  generalize bs (textT k) = tk at *
  obtain ⟨op, rd, rs1, rs2, imm, aq, rl, pred, succ⟩ := i
  obtain ⟨xop, xrd, xrs1, xrs2, ximm, xaq, xrl, xpred, xsucc⟩ := k
  unfold insV at *
  unfold insCells at L1 L2
  simp only at *
  go_enter Tryd.func6, Tryd.ntmps6
  go_upto_region 1 with (fail)
  generalize ((W.alloc (.cells _ 23)).alloc (.cells _ 23)) = w1 at *
  obtain ⟨g2, hg2⟩ : ∃ g, W.heap.size + 1 = g := ⟨_, rfl⟩
  rw [hg2] at L2 ⊢
  obtain ⟨g1, hg1⟩ : ∃ g, W.heap.size = g := ⟨_, rfl⟩
  have M1 : Ly W g1 ⟨op, rd, rs1, rs2, imm, aq, rl, pred, succ⟩ w1 := by rw [← hg1]; exact L1
  have M2 : Ly W g2 ⟨xop, xrd, xrs1, xrs2, ximm, xaq, xrl, xpred, xsucc⟩ w1 := L2
  rw [hg1]
  clear hg1 hg2 L1 L2
  go_upto_region 5 with (first
    | (go_at_call 7; refine (kA _ M1.1).mono ?_; rintro e w2 ⟨rfl, _, hb⟩; have N1 := M1.on hb; have N2 := M2.on hb; clear hb))
  have c0 := N1.cell 0
  have c1 := N1.cell 1
  have c2 := N1.cell 2
  have c3 := N1.cell 3
  have c4 := N1.cell 4
  have c5 := N1.cell 5
  have c6 := N1.cell 6
  have c7 := N1.cell 7
  have c8 := N1.cell 8
  simp only [insCells] at c0 c1 c2 c3 c4 c5 c6 c7 c8
  go_upto_region 6 with (first
    | (go_at_call 8; refine (kTi _ N1.1).mono ?_; rintro e w3 ⟨rfl, hb⟩; have O1 := N1.on hb; have O2 := N2.on hb; clear hb))
  clear c0 c1 c2 c3 c4 c5 c6 c7 c8
  go_upto_region 10 with (fail)
  have c0 := O2.cell 0
  have c1 := O2.cell 1
  have c2 := O2.cell 2
  have c3 := O2.cell 3
  have c4 := O2.cell 4
  have c5 := O2.cell 5
  have c6 := O2.cell 6
  have c7 := O2.cell 7
  have c8 := O2.cell 8
  simp only [insCells] at c0 c1 c2 c3 c4 c5 c6 c7 c8
  go_upto_region 11 with (first
    | (go_at_call 8; refine (kTk _ O1.1).mono ?_; rintro e w6 ⟨rfl, hb⟩; have R1 := O1.on hb; have R2 := O2.on hb; clear hb))
  clear c0 c1 c2 c3 c4 c5 c6 c7 c8
  go_upto_region 13 with (fail)
  cases hrd : readC q.data.toList with
  | none =>
    have kR0 : ∀ x (h : BW W x), Calls Tryd.prog 11 #[.string q] x fun e w' => e = .returned (.tuple #[insV noIns, .int .i64 5]) ∧ Below x.heap.size x w' := fun x h => by have := kR x h; rw [hrd] at this; exact this
    clear kR hRX kX hrd
    unfold insV noIns at kR0
    simp only at kR0
    go_upto_region 14 with (first
      | (go_at_call 11; refine (kR0 _ R1.1).mono ?_; rintro e w7 ⟨rfl, hb⟩; have S1 := R1.on hb; clear hb))
    have S2 := S1.on (Below.alloc (Below.refl _ _) (Nat.le_refl _) (.cells #[.int .i64 0, .int .i64 0, .int .i64 0, .int .i64 0, .int .i64 0, .bool false, .bool false, .int .i64 0, .int .i64 0] 23))
    clear S1
    generalize w7.alloc (.cells _ 23) = w8 at *
    go_wp2_with (first
      | (go_at_call 7; refine (kA _ S2.1).mono ?_; rintro e w9 ⟨rfl, hb, _⟩; have S3 := Lib.hid hb; clear hb))
    go_ret
    exact ⟨rfl, S3.out⟩
  | some j =>
    obtain ⟨Rj, ej⟩ := (hRX j).1 hrd
    have kR0 : ∀ x (h : BW W x), Calls Tryd.prog 11 #[.string q] x fun e w' => e = .returned (.tuple #[insV j, .int .i64 0]) ∧ Below x.heap.size x w' := fun x h => by have := kR x h; rw [hrd] at this; exact this
    have kX0 : ∀ x (h : BW W x), Calls Tryd.prog 8 #[insV j] x fun e w' => e = .returned (.tuple #[.string q, .int .i64 0]) ∧ Below x.heap.size x w' := fun x h => by have := kX j Rj x h; rw [ej, hqq] at this; exact this
    have hqe : (q.toList == q.toList) = true := by simp
    clear kR hRX kX hrd Rj ej hqq
    obtain ⟨yop, yrd, yrs1, yrs2, yimm, yaq, yrl, ypred, ysucc⟩ := j
    unfold insV at kR0 kX0
    simp only at kR0 kX0
    go_upto_region 14 with (first
      | (go_at_call 11; refine (kR0 _ R1.1).mono ?_; rintro e w7 ⟨rfl, hb⟩; have S1 := R1.on hb; clear hb))
    have S2 := S1.on (Below.alloc (Below.refl _ _) (Nat.le_refl _) (.cells #[.int .i64 yop, .int .i64 yrd, .int .i64 yrs1, .int .i64 yrs2, .int .i64 yimm, .bool yaq, .bool yrl, .int .i64 ypred, .int .i64 ysucc] 23))
    have S3 := Blk.new #[.int .i64 yop, .int .i64 yrd, .int .i64 yrs1, .int .i64 yrs2, .int .i64 yimm, .bool yaq, .bool yrl, .int .i64 ypred, .int .i64 ysucc] 23 w7
    clear S1
    generalize w7.alloc (.cells _ 23) = w8 at *
    generalize w7.heap.size = g13 at *
    have d0 := S3.cell 0
    have d1 := S3.cell 1
    have d2 := S3.cell 2
    have d3 := S3.cell 3
    have d4 := S3.cell 4
    have d5 := S3.cell 5
    have d6 := S3.cell 6
    have d7 := S3.cell 7
    have d8 := S3.cell 8
    go_wp2_with (first
      | (go_at_call 8; refine (kX0 _ S2.1).mono ?_; rintro e w9 ⟨rfl, hb⟩; have S4 := S2.on hb; clear hb)
      | (go_at_call 7; refine (kA _ S4.1).mono ?_; rintro e w10 ⟨rfl, hb, _⟩; have S5 := Lib.hid hb; clear hb))
    go_ret
    exact ⟨rfl, S5.out⟩
set_option maxHeartbeats 4000000 in
theorem back_tf {W : World} (T : Tab9 W) (i k : Ins) (q : ByteArray) (hi : I64 i.op) (hk : I64 k.op) (hq : ¬ 200 < q.size) (ri : rgtB i = true) (rk : rgtB k = false) :
    Calls Tryd.prog 6 #[insV i, insV k, .string q] W fun e w' => e = .returned (.bool true) ∧ Below W.heap.size W w' := by
  have kA := fun x (h : BW W x) => alive9_any T x h
  have hqI : ¬ (200 : Int) < q.size := by omega
  have Ri := (rgt_iff i).1 ri
  have kTi := fun x (h : BW W x) => text_ok i Ri x (T.below h)
  have kRi := fun x (h : BW W x) => read_back i Ri x (T.below h)
  have hII := fun x => run_neq_V i i x
  rw [show eqB i i = true from (eqB_iff i i).2 rfl] at hII
  have kTk := fun x (h : BW W x) => text_no k hk rk x (T.below h)
  clear Ri
  have kR := fun x (h : BW W x) => read_q q (by omega) x (T.below h)
  have kX := fun j (hj : Rgt j) x (h : BW W x) => text_ok j hj x (T.below h)
  have hRX := readC_iff q.data.toList
  have hqq := bs_data q
  have j1 := jn_new i W
  have a1 : (W.alloc (.cells (insCells i) 23)).heap.size = W.heap.size + 1 := by simp
  have b2 := Blk.new (insCells k) 23 (W.alloc (.cells (insCells i) 23))
  rw [a1] at b2
  have L1 : Ly W W.heap.size i ((W.alloc (.cells (insCells i) 23)).alloc (.cells (insCells k) 23)) := ⟨j1.1.new _, j1.2.1.alloc _⟩
  have L2 : Ly W (W.heap.size + 1) k ((W.alloc (.cells (insCells i) 23)).alloc (.cells (insCells k) 23)) := ⟨j1.1.new _, b2⟩
  clear j1 a1 b2 T ri rk hi hk
  unfold tx at *
  generalize bs (textT i) = ti at *
  obtain ⟨op, rd, rs1, rs2, imm, aq, rl, pred, succ⟩ := i
  obtain ⟨xop, xrd, xrs1, xrs2, ximm, xaq, xrl, xpred, xsucc⟩ := k
  unfold insV at *
  unfold insCells at L1 L2
  simp only at *
  go_enter Tryd.func6, Tryd.ntmps6
  go_upto_region 1 with (fail)
  generalize ((W.alloc (.cells _ 23)).alloc (.cells _ 23)) = w1 at *
  obtain ⟨g2, hg2⟩ : ∃ g, W.heap.size + 1 = g := ⟨_, rfl⟩
  rw [hg2] at L2 ⊢
  obtain ⟨g1, hg1⟩ : ∃ g, W.heap.size = g := ⟨_, rfl⟩
  have M1 : Ly W g1 ⟨op, rd, rs1, rs2, imm, aq, rl, pred, succ⟩ w1 := by rw [← hg1]; exact L1
  have M2 : Ly W g2 ⟨xop, xrd, xrs1, xrs2, ximm, xaq, xrl, xpred, xsucc⟩ w1 := L2
  rw [hg1]
  clear hg1 hg2 L1 L2
  go_upto_region 5 with (first
    | (go_at_call 7; refine (kA _ M1.1).mono ?_; rintro e w2 ⟨rfl, _, hb⟩; have N1 := M1.on hb; have N2 := M2.on hb; clear hb))
  have c0 := N1.cell 0
  have c1 := N1.cell 1
  have c2 := N1.cell 2
  have c3 := N1.cell 3
  have c4 := N1.cell 4
  have c5 := N1.cell 5
  have c6 := N1.cell 6
  have c7 := N1.cell 7
  have c8 := N1.cell 8
  simp only [insCells] at c0 c1 c2 c3 c4 c5 c6 c7 c8
  go_upto_region 6 with (first
    | (go_at_call 8; refine (kTi _ N1.1).mono ?_; rintro e w3 ⟨rfl, hb⟩; have O1 := N1.on hb; have O2 := N2.on hb; clear hb))
  clear c0 c1 c2 c3 c4 c5 c6 c7 c8
  go_upto_region 8 with (first
    | (go_at_call 11; refine (kRi _ O1.1).mono ?_; rintro e w4 ⟨rfl, hb⟩; have P1 := O1.on hb; have P2 := O2.on hb; clear hb))
  have Q1 := P1.on (Below.alloc (Below.refl _ _) (Nat.le_refl _) (.cells #[.int .i64 op, .int .i64 rd, .int .i64 rs1, .int .i64 rs2, .int .i64 imm, .bool aq, .bool rl, .int .i64 pred, .int .i64 succ] 23))
  have Q2 := P2.on (Below.alloc (Below.refl _ _) (Nat.le_refl _) (.cells #[.int .i64 op, .int .i64 rd, .int .i64 rs1, .int .i64 rs2, .int .i64 imm, .bool aq, .bool rl, .int .i64 pred, .int .i64 succ] 23))
  have Q3 := Blk.new #[.int .i64 op, .int .i64 rd, .int .i64 rs1, .int .i64 rs2, .int .i64 imm, .bool aq, .bool rl, .int .i64 pred, .int .i64 succ] 23 w4
  clear P1 P2 kRi
  generalize w4.alloc (.cells _ 23) = w5 at *
  generalize w4.heap.size = g9 at *
  have c0 := Q1.cell 0
  have c1 := Q1.cell 1
  have c2 := Q1.cell 2
  have c3 := Q1.cell 3
  have c4 := Q1.cell 4
  have c5 := Q1.cell 5
  have c6 := Q1.cell 6
  have c7 := Q1.cell 7
  have c8 := Q1.cell 8
  simp only [insCells] at c0 c1 c2 c3 c4 c5 c6 c7 c8
  have d0 := Q3.cell 0
  have d1 := Q3.cell 1
  have d2 := Q3.cell 2
  have d3 := Q3.cell 3
  have d4 := Q3.cell 4
  have d5 := Q3.cell 5
  have d6 := Q3.cell 6
  have d7 := Q3.cell 7
  have d8 := Q3.cell 8
  go_upto_region 10 with (fail)
  clear c0 c1 c2 c3 c4 c5 c6 c7 c8
  clear d0 d1 d2 d3 d4 d5 d6 d7 d8
  clear Q3 hII
  have c0 := Q2.cell 0
  have c1 := Q2.cell 1
  have c2 := Q2.cell 2
  have c3 := Q2.cell 3
  have c4 := Q2.cell 4
  have c5 := Q2.cell 5
  have c6 := Q2.cell 6
  have c7 := Q2.cell 7
  have c8 := Q2.cell 8
  simp only [insCells] at c0 c1 c2 c3 c4 c5 c6 c7 c8
  go_upto_region 11 with (first
    | (go_at_call 8; refine (kTk _ Q1.1).mono ?_; rintro e w6 ⟨rfl, hb⟩; have R1 := Q1.on hb; have R2 := Q2.on hb; clear hb))
  clear c0 c1 c2 c3 c4 c5 c6 c7 c8
  go_upto_region 13 with (fail)
  cases hrd : readC q.data.toList with
  | none =>
    have kR0 : ∀ x (h : BW W x), Calls Tryd.prog 11 #[.string q] x fun e w' => e = .returned (.tuple #[insV noIns, .int .i64 5]) ∧ Below x.heap.size x w' := fun x h => by have := kR x h; rw [hrd] at this; exact this
    clear kR hRX kX hrd
    unfold insV noIns at kR0
    simp only at kR0
    go_upto_region 14 with (first
      | (go_at_call 11; refine (kR0 _ R1.1).mono ?_; rintro e w7 ⟨rfl, hb⟩; have S1 := R1.on hb; clear hb))
    have S2 := S1.on (Below.alloc (Below.refl _ _) (Nat.le_refl _) (.cells #[.int .i64 0, .int .i64 0, .int .i64 0, .int .i64 0, .int .i64 0, .bool false, .bool false, .int .i64 0, .int .i64 0] 23))
    clear S1
    generalize w7.alloc (.cells _ 23) = w8 at *
    go_wp2_with (first
      | (go_at_call 7; refine (kA _ S2.1).mono ?_; rintro e w9 ⟨rfl, hb, _⟩; have S3 := Lib.hid hb; clear hb))
    go_ret
    exact ⟨rfl, S3.out⟩
  | some j =>
    obtain ⟨Rj, ej⟩ := (hRX j).1 hrd
    have kR0 : ∀ x (h : BW W x), Calls Tryd.prog 11 #[.string q] x fun e w' => e = .returned (.tuple #[insV j, .int .i64 0]) ∧ Below x.heap.size x w' := fun x h => by have := kR x h; rw [hrd] at this; exact this
    have kX0 : ∀ x (h : BW W x), Calls Tryd.prog 8 #[insV j] x fun e w' => e = .returned (.tuple #[.string q, .int .i64 0]) ∧ Below x.heap.size x w' := fun x h => by have := kX j Rj x h; rw [ej, hqq] at this; exact this
    have hqe : (q.toList == q.toList) = true := by simp
    clear kR hRX kX hrd Rj ej hqq
    obtain ⟨yop, yrd, yrs1, yrs2, yimm, yaq, yrl, ypred, ysucc⟩ := j
    unfold insV at kR0 kX0
    simp only at kR0 kX0
    go_upto_region 14 with (first
      | (go_at_call 11; refine (kR0 _ R1.1).mono ?_; rintro e w7 ⟨rfl, hb⟩; have S1 := R1.on hb; clear hb))
    have S2 := S1.on (Below.alloc (Below.refl _ _) (Nat.le_refl _) (.cells #[.int .i64 yop, .int .i64 yrd, .int .i64 yrs1, .int .i64 yrs2, .int .i64 yimm, .bool yaq, .bool yrl, .int .i64 ypred, .int .i64 ysucc] 23))
    have S3 := Blk.new #[.int .i64 yop, .int .i64 yrd, .int .i64 yrs1, .int .i64 yrs2, .int .i64 yimm, .bool yaq, .bool yrl, .int .i64 ypred, .int .i64 ysucc] 23 w7
    clear S1
    generalize w7.alloc (.cells _ 23) = w8 at *
    generalize w7.heap.size = g13 at *
    have d0 := S3.cell 0
    have d1 := S3.cell 1
    have d2 := S3.cell 2
    have d3 := S3.cell 3
    have d4 := S3.cell 4
    have d5 := S3.cell 5
    have d6 := S3.cell 6
    have d7 := S3.cell 7
    have d8 := S3.cell 8
    go_wp2_with (first
      | (go_at_call 8; refine (kX0 _ S2.1).mono ?_; rintro e w9 ⟨rfl, hb⟩; have S4 := S2.on hb; clear hb)
      | (go_at_call 7; refine (kA _ S4.1).mono ?_; rintro e w10 ⟨rfl, hb, _⟩; have S5 := Lib.hid hb; clear hb))
    go_ret
    exact ⟨rfl, S5.out⟩
set_option maxHeartbeats 4000000 in
theorem back_tt {W : World} (T : Tab9 W) (i k : Ins) (q : ByteArray) (hi : I64 i.op) (hk : I64 k.op) (hq : ¬ 200 < q.size) (ri : rgtB i = true) (rk : rgtB k = true) :
    Calls Tryd.prog 6 #[insV i, insV k, .string q] W fun e w' => e = .returned (.bool true) ∧ Below W.heap.size W w' := by
  have kA := fun x (h : BW W x) => alive9_any T x h
  have hqI : ¬ (200 : Int) < q.size := by omega
  have Ri := (rgt_iff i).1 ri
  have kTi := fun x (h : BW W x) => text_ok i Ri x (T.below h)
  have kRi := fun x (h : BW W x) => read_back i Ri x (T.below h)
  have hII := fun x => run_neq_V i i x
  rw [show eqB i i = true from (eqB_iff i i).2 rfl] at hII
  have Rk := (rgt_iff k).1 rk
  have kTk := fun x (h : BW W x) => text_ok k Rk x (T.below h)
  have hIK := fun x => run_eql_V i k x
  have hTT : ((bs (textT i)).toList == (bs (textT k)).toList) = eqB i k := by
    rw [bs_beq, Bool.eq_iff_iff, decide_eq_true_eq, eqB_iff]
    exact ⟨text_inj Ri Rk, fun e => by rw [e]⟩
  clear Ri Rk
  generalize eqB i k = ek at *
  have kR := fun x (h : BW W x) => read_q q (by omega) x (T.below h)
  have kX := fun j (hj : Rgt j) x (h : BW W x) => text_ok j hj x (T.below h)
  have hRX := readC_iff q.data.toList
  have hqq := bs_data q
  have j1 := jn_new i W
  have a1 : (W.alloc (.cells (insCells i) 23)).heap.size = W.heap.size + 1 := by simp
  have b2 := Blk.new (insCells k) 23 (W.alloc (.cells (insCells i) 23))
  rw [a1] at b2
  have L1 : Ly W W.heap.size i ((W.alloc (.cells (insCells i) 23)).alloc (.cells (insCells k) 23)) := ⟨j1.1.new _, j1.2.1.alloc _⟩
  have L2 : Ly W (W.heap.size + 1) k ((W.alloc (.cells (insCells i) 23)).alloc (.cells (insCells k) 23)) := ⟨j1.1.new _, b2⟩
  clear j1 a1 b2 T ri rk hi hk
  unfold tx at *
  generalize bs (textT i) = ti at *
  generalize bs (textT k) = tk at *
  obtain ⟨op, rd, rs1, rs2, imm, aq, rl, pred, succ⟩ := i
  obtain ⟨xop, xrd, xrs1, xrs2, ximm, xaq, xrl, xpred, xsucc⟩ := k
  unfold insV at *
  unfold insCells at L1 L2
  simp only at *
  go_enter Tryd.func6, Tryd.ntmps6
  go_upto_region 1 with (fail)
  generalize ((W.alloc (.cells _ 23)).alloc (.cells _ 23)) = w1 at *
  obtain ⟨g2, hg2⟩ : ∃ g, W.heap.size + 1 = g := ⟨_, rfl⟩
  rw [hg2] at L2 ⊢
  obtain ⟨g1, hg1⟩ : ∃ g, W.heap.size = g := ⟨_, rfl⟩
  have M1 : Ly W g1 ⟨op, rd, rs1, rs2, imm, aq, rl, pred, succ⟩ w1 := by rw [← hg1]; exact L1
  have M2 : Ly W g2 ⟨xop, xrd, xrs1, xrs2, ximm, xaq, xrl, xpred, xsucc⟩ w1 := L2
  rw [hg1]
  clear hg1 hg2 L1 L2
  go_upto_region 5 with (first
    | (go_at_call 7; refine (kA _ M1.1).mono ?_; rintro e w2 ⟨rfl, _, hb⟩; have N1 := M1.on hb; have N2 := M2.on hb; clear hb))
  have c0 := N1.cell 0
  have c1 := N1.cell 1
  have c2 := N1.cell 2
  have c3 := N1.cell 3
  have c4 := N1.cell 4
  have c5 := N1.cell 5
  have c6 := N1.cell 6
  have c7 := N1.cell 7
  have c8 := N1.cell 8
  simp only [insCells] at c0 c1 c2 c3 c4 c5 c6 c7 c8
  go_upto_region 6 with (first
    | (go_at_call 8; refine (kTi _ N1.1).mono ?_; rintro e w3 ⟨rfl, hb⟩; have O1 := N1.on hb; have O2 := N2.on hb; clear hb))
  clear c0 c1 c2 c3 c4 c5 c6 c7 c8
  go_upto_region 8 with (first
    | (go_at_call 11; refine (kRi _ O1.1).mono ?_; rintro e w4 ⟨rfl, hb⟩; have P1 := O1.on hb; have P2 := O2.on hb; clear hb))
  have Q1 := P1.on (Below.alloc (Below.refl _ _) (Nat.le_refl _) (.cells #[.int .i64 op, .int .i64 rd, .int .i64 rs1, .int .i64 rs2, .int .i64 imm, .bool aq, .bool rl, .int .i64 pred, .int .i64 succ] 23))
  have Q2 := P2.on (Below.alloc (Below.refl _ _) (Nat.le_refl _) (.cells #[.int .i64 op, .int .i64 rd, .int .i64 rs1, .int .i64 rs2, .int .i64 imm, .bool aq, .bool rl, .int .i64 pred, .int .i64 succ] 23))
  have Q3 := Blk.new #[.int .i64 op, .int .i64 rd, .int .i64 rs1, .int .i64 rs2, .int .i64 imm, .bool aq, .bool rl, .int .i64 pred, .int .i64 succ] 23 w4
  clear P1 P2 kRi
  generalize w4.alloc (.cells _ 23) = w5 at *
  generalize w4.heap.size = g9 at *
  have c0 := Q1.cell 0
  have c1 := Q1.cell 1
  have c2 := Q1.cell 2
  have c3 := Q1.cell 3
  have c4 := Q1.cell 4
  have c5 := Q1.cell 5
  have c6 := Q1.cell 6
  have c7 := Q1.cell 7
  have c8 := Q1.cell 8
  simp only [insCells] at c0 c1 c2 c3 c4 c5 c6 c7 c8
  have d0 := Q3.cell 0
  have d1 := Q3.cell 1
  have d2 := Q3.cell 2
  have d3 := Q3.cell 3
  have d4 := Q3.cell 4
  have d5 := Q3.cell 5
  have d6 := Q3.cell 6
  have d7 := Q3.cell 7
  have d8 := Q3.cell 8
  go_upto_region 10 with (fail)
  clear c0 c1 c2 c3 c4 c5 c6 c7 c8
  clear d0 d1 d2 d3 d4 d5 d6 d7 d8
  clear Q3 hII
  have c0 := Q2.cell 0
  have c1 := Q2.cell 1
  have c2 := Q2.cell 2
  have c3 := Q2.cell 3
  have c4 := Q2.cell 4
  have c5 := Q2.cell 5
  have c6 := Q2.cell 6
  have c7 := Q2.cell 7
  have c8 := Q2.cell 8
  simp only [insCells] at c0 c1 c2 c3 c4 c5 c6 c7 c8
  go_upto_region 11 with (first
    | (go_at_call 8; refine (kTk _ Q1.1).mono ?_; rintro e w6 ⟨rfl, hb⟩; have R1 := Q1.on hb; have R2 := Q2.on hb; clear hb))
  clear c0 c1 c2 c3 c4 c5 c6 c7 c8
  have c0 := R1.cell 0
  have c1 := R1.cell 1
  have c2 := R1.cell 2
  have c3 := R1.cell 3
  have c4 := R1.cell 4
  have c5 := R1.cell 5
  have c6 := R1.cell 6
  have c7 := R1.cell 7
  have c8 := R1.cell 8
  simp only [insCells] at c0 c1 c2 c3 c4 c5 c6 c7 c8
  have d0 := R2.cell 0
  have d1 := R2.cell 1
  have d2 := R2.cell 2
  have d3 := R2.cell 3
  have d4 := R2.cell 4
  have d5 := R2.cell 5
  have d6 := R2.cell 6
  have d7 := R2.cell 7
  have d8 := R2.cell 8
  simp only [insCells] at d0 d1 d2 d3 d4 d5 d6 d7 d8
  go_upto_region 13 with (fail)
  clear c0 c1 c2 c3 c4 c5 c6 c7 c8
  clear d0 d1 d2 d3 d4 d5 d6 d7 d8
  clear hIK hTT
  cases hrd : readC q.data.toList with
  | none =>
    have kR0 : ∀ x (h : BW W x), Calls Tryd.prog 11 #[.string q] x fun e w' => e = .returned (.tuple #[insV noIns, .int .i64 5]) ∧ Below x.heap.size x w' := fun x h => by have := kR x h; rw [hrd] at this; exact this
    clear kR hRX kX hrd
    unfold insV noIns at kR0
    simp only at kR0
    go_upto_region 14 with (first
      | (go_at_call 11; refine (kR0 _ R1.1).mono ?_; rintro e w7 ⟨rfl, hb⟩; have S1 := R1.on hb; clear hb))
    have S2 := S1.on (Below.alloc (Below.refl _ _) (Nat.le_refl _) (.cells #[.int .i64 0, .int .i64 0, .int .i64 0, .int .i64 0, .int .i64 0, .bool false, .bool false, .int .i64 0, .int .i64 0] 23))
    clear S1
    generalize w7.alloc (.cells _ 23) = w8 at *
    go_wp2_with (first
      | (go_at_call 7; refine (kA _ S2.1).mono ?_; rintro e w9 ⟨rfl, hb, _⟩; have S3 := Lib.hid hb; clear hb))
    go_ret
    exact ⟨rfl, S3.out⟩
  | some j =>
    obtain ⟨Rj, ej⟩ := (hRX j).1 hrd
    have kR0 : ∀ x (h : BW W x), Calls Tryd.prog 11 #[.string q] x fun e w' => e = .returned (.tuple #[insV j, .int .i64 0]) ∧ Below x.heap.size x w' := fun x h => by have := kR x h; rw [hrd] at this; exact this
    have kX0 : ∀ x (h : BW W x), Calls Tryd.prog 8 #[insV j] x fun e w' => e = .returned (.tuple #[.string q, .int .i64 0]) ∧ Below x.heap.size x w' := fun x h => by have := kX j Rj x h; rw [ej, hqq] at this; exact this
    have hqe : (q.toList == q.toList) = true := by simp
    clear kR hRX kX hrd Rj ej hqq
    obtain ⟨yop, yrd, yrs1, yrs2, yimm, yaq, yrl, ypred, ysucc⟩ := j
    unfold insV at kR0 kX0
    simp only at kR0 kX0
    go_upto_region 14 with (first
      | (go_at_call 11; refine (kR0 _ R1.1).mono ?_; rintro e w7 ⟨rfl, hb⟩; have S1 := R1.on hb; clear hb))
    have S2 := S1.on (Below.alloc (Below.refl _ _) (Nat.le_refl _) (.cells #[.int .i64 yop, .int .i64 yrd, .int .i64 yrs1, .int .i64 yrs2, .int .i64 yimm, .bool yaq, .bool yrl, .int .i64 ypred, .int .i64 ysucc] 23))
    have S3 := Blk.new #[.int .i64 yop, .int .i64 yrd, .int .i64 yrs1, .int .i64 yrs2, .int .i64 yimm, .bool yaq, .bool yrl, .int .i64 ypred, .int .i64 ysucc] 23 w7
    clear S1
    generalize w7.alloc (.cells _ 23) = w8 at *
    generalize w7.heap.size = g13 at *
    have d0 := S3.cell 0
    have d1 := S3.cell 1
    have d2 := S3.cell 2
    have d3 := S3.cell 3
    have d4 := S3.cell 4
    have d5 := S3.cell 5
    have d6 := S3.cell 6
    have d7 := S3.cell 7
    have d8 := S3.cell 8
    go_wp2_with (first
      | (go_at_call 8; refine (kX0 _ S2.1).mono ?_; rintro e w9 ⟨rfl, hb⟩; have S4 := S2.on hb; clear hb)
      | (go_at_call 7; refine (kA _ S4.1).mono ?_; rintro e w10 ⟨rfl, hb, _⟩; have S5 := Lib.hid hb; clear hb))
    go_ret
    exact ⟨rfl, S5.out⟩
set_option maxHeartbeats 2000000 in
theorem back_law9 {W : World} (T : Tab9 W) (i k : Ins) (q : ByteArray) (hi : I64 i.op) (hk : I64 k.op) : Calls Tryd.prog 6 #[insV i, insV k, .string q] W fun e w' => e = .returned (.bool true) ∧ Below W.heap.size W w' := by
  by_cases hq : 200 < q.size
  · have kA := fun x (h : BW W x) => alive9_any T x h
    have hqI : (200 : Int) < q.size := by omega
    have HB : BW W ((W.alloc (.cells (insCells i) 23)).alloc (.cells (insCells k) 23)) := BW.new (BW.new (Below.refl _ _) _) _
    clear T hi hk
    obtain ⟨op, rd, rs1, rs2, imm, aq, rl, pred, succ⟩ := i
    obtain ⟨xop, xrd, xrs1, xrs2, ximm, xaq, xrl, xpred, xsucc⟩ := k
    unfold insV insCells at *
    simp only at *
    go_enter Tryd.func6, Tryd.ntmps6
    go_upto_region 3 with (first
      | (go_at_call 7; refine (kA _ HB).mono ?_; rintro e w2 ⟨rfl, hb, _⟩; have HB2 := Lib.hid hb; clear hb))
    go_wp2_with (first
      | (go_at_call 7; refine (kA _ HB2.out).mono ?_; rintro e w3 ⟨rfl, hb, _⟩; have HB3 := Lib.hid hb; clear hb))
    go_ret
    exact ⟨rfl, HB3.out⟩
  · cases ri : rgtB i <;> cases rk : rgtB k
    · exact back_ff T i k q hi hk hq ri rk
    · exact back_ft T i k q hi hk hq ri rk
    · exact back_tf T i k q hi hk hq ri rk
    · exact back_tt T i k q hi hk hq ri rk
end Go.Proofs.YtdpbiboldmoadaaDoor
