/- NamesPlays. -/
import Derived.Test.YtoahejjeihmiiaaNn
import Derived.Deep.CutBlock
set_option maxRecDepth 100000
set_option linter.unusedVariables false
namespace Go.Proofs.Ytoahejjeihmiiaa
open Go.RowKit

section
variable {W w w' : World} {s t : Nst} {g h : Nat} {K : List Kb}
theorem lq_claim (H : NLQ W s t g h K w) (r : Int) : Calls Try.prog 10 #[.pointer (some ⟨g, 0, none⟩), .int .i64 r] w fun e w' => e = .returned (.tuple #[.int .i64 (claN s r).2.1, .bool (claN s r).2.2]) ∧ NLQ W ((claN s r).1) t g h K w' :=
  H.prog (H.oks.1.cla r) fun p hp ha ok => hp ▸ claim15_c ha ok r
theorem lq_set (H : NLQ W s t g h K w) (c v : Int) : Calls Try.prog 12 #[.pointer (some ⟨g, 0, none⟩), .int .i64 c, .int .u64 v] w fun e w' => e = .returned (.bool (hasN s c)) ∧ NLQ W (setN s c v) t g h K w' :=
  H.prog (H.oks.1.set c v) fun p hp ha ok => hp ▸ set15_c ha ok c v
theorem lq_retire (H : NLQ W s t g h K w) : Calls Try.prog 14 #[.pointer (some ⟨g, 0, none⟩)] w fun e w' => e = .returned (.bool (retOk s)) ∧ NLQ W (retN s) t g h K w' :=
  H.prog (H.oks.1.ret) fun p hp ha ok => hp ▸ retire15_c ha ok
theorem lq_undo (H : NLQ W s t g h K w) : Calls Try.prog 16 #[.pointer (some ⟨g, 0, none⟩)] w fun e w' => e = .returned (.bool (undOk s)) ∧ NLQ W (undN s) t g h K w' :=
  H.prog (H.oks.1.und) fun p hp ha ok => hp ▸ undo15_c ha ok
theorem lr_claim (H : NLQ W s t g h K w) (r : Int) : Calls Try.prog 11 #[.pointer (some ⟨h, 0, none⟩), .int .i64 r] w fun e w' => e = .returned (.tuple #[.int .i64 (claN t r).2.1, .bool (claN t r).2.2]) ∧ NLQ W s ((claN t r).1) g h K w' :=
  H.docu (H.oks.2.cla r) fun q hq ha ok => hq ▸ rclaim15_c ha ok r
theorem lr_set (H : NLQ W s t g h K w) (c v : Int) : Calls Try.prog 13 #[.pointer (some ⟨h, 0, none⟩), .int .i64 c, .int .u64 v] w fun e w' => e = .returned (.bool (hasN t c)) ∧ NLQ W s (setN t c v) g h K w' :=
  H.docu (H.oks.2.set c v) fun q hq ha ok => hq ▸ rset15_c ha ok c v
theorem lr_retire (H : NLQ W s t g h K w) : Calls Try.prog 15 #[.pointer (some ⟨h, 0, none⟩)] w fun e w' => e = .returned (.bool (retOk t)) ∧ NLQ W s (retN t) g h K w' :=
  H.docu (H.oks.2.ret) fun q hq ha ok => hq ▸ rretire15_c ha ok
theorem lr_undo (H : NLQ W s t g h K w) : Calls Try.prog 17 #[.pointer (some ⟨h, 0, none⟩)] w fun e w' => e = .returned (.bool (undOk t)) ∧ NLQ W s (undN t) g h K w' :=
  H.docu (H.oks.2.und) fun q hq ha ok => hq ▸ rundo15_c ha ok
theorem lq_look (H : NLQ W s t g h K w) (r : Int) : Calls Try.prog 19 #[.pointer (some ⟨g, 0, none⟩), .int .i64 r] w fun e w' => e = .returned (.int .i64 (lookN s r)) ∧ BW w w' := H.pre fun p hp ha ok => hp ▸ look15_c ha ok r
theorem lq_values (H : NLQ W s t g h K w) : Calls Try.prog 21 #[.pointer (some ⟨g, 0, none⟩)] w fun e w' => e = .returned (.agg (xCells (valsN s))) ∧ BW w w' := H.pre fun p hp ha ok => hp ▸ values_c ha ok
theorem lq_claims (H : NLQ W s t g h K w) : Calls Try.prog 18 #[.pointer (some ⟨g, 0, none⟩)] w fun e w' => e = .returned (.int .i64 (s.l.length : Int)) ∧ w = w' := H.pre fun p hp ha ok => hp ▸ claims_c ha
theorem lq_value (H : NLQ W s t g h K w) (c : Int) : Calls Try.prog 23 #[.pointer (some ⟨g, 0, none⟩), .int .i64 c] w fun e w' => e = .returned (.tuple #[.int .u64 (valN s c).1, .bool (valN s c).2]) ∧ ∃ n, w' = w.drewN n := H.pre fun p hp ha ok => hp ▸ nvalue_c ha c
theorem lr_look (H : NLQ W s t g h K w) (r : Int) : Calls Try.prog 20 #[.pointer (some ⟨h, 0, none⟩), .int .i64 r] w fun e w' => e = .returned (.int .i64 (lookN t r)) ∧ w = w' := H.dre fun q hq ha ok => hq ▸ rlook15_c ha ok r
theorem lr_values (H : NLQ W s t g h K w) : Calls Try.prog 22 #[.pointer (some ⟨h, 0, none⟩)] w fun e w' => e = .returned (.agg (xCells (valsN t))) ∧ BW w w' := H.dre fun q hq ha ok => hq ▸ rvalues15_c ha
theorem lr_value (H : NLQ W s t g h K w) (c : Int) : Calls Try.prog 24 #[.pointer (some ⟨h, 0, none⟩), .int .i64 c] w fun e w' => e = .returned (.tuple #[.int .u64 (valN t c).1, .bool (valN t c).2]) ∧ BW w w' := H.dre fun q hq ha ok => hq ▸ rvalue15_c ha ok c
/-- The document's claims, as they lie. -/
theorem lr_rows (H : NLQ W s t g h K w) : ∃ A cap, h < w.heap.size ∧ w.cell? ⟨h, 128, none⟩ = some (.slice A t.l.length cap) ∧ (0 < t.l.length → ∃ b off, A = some ⟨b, off, none⟩ ∧ b < w.heap.size ∧ w.cell? ⟨b, off + (t.l.length - 1) * 4 + 1, none⟩ = some (.int .i64 ((claAt t (t.l.length - 1)).2 : Int))) := by
  obtain ⟨o1, o2, p, q, e1, rfl, a1, a2, _⟩ := H
  obtain ⟨A, cap, hv, _, _, _, hs⟩ := a2.row.shape
  refine ⟨A, cap, a2.head.lt, by rw [← hv]; exact a2.head_cell, fun hl => ?_⟩
  obtain ⟨b, off, cap', e, _, _⟩ := a2.begins hl
  rw [hv] at e
  cases e
  exact ⟨b, off, rfl, (hs b off rfl).2.1, (a2.row_cell hv (by omega)).2.1⟩
end
/-- Both, and where the document's claims lie. -/
def NLR (W : World) (s : Nst) (g h : Nat) (K : List Kb) (A : Option Addr) (c : Nat) (y : World) : Prop := NLQ W s s g h K y ∧ h < y.heap.size ∧ y.cell? ⟨h, 128, none⟩ = some (.slice A s.l.length c)
theorem NLR.on {W y z : World} {s : Nst} {g h : Nat} {K : List Kb} {A : Option Addr} {c : Nat} (H : NLR W s g h K A c y) (k : Below y.heap.size y z) : NLR W s g h K A c z := ⟨H.1.on k, Nat.lt_of_lt_of_le H.2.1 k.size, (Below.cell k (p := ⟨h, 128, none⟩) H.2.1).trans H.2.2⟩
/-- The last claim's cell. -/
def lastN (s : Nst) : Int := if s.l.length = 0 then 0 else ((claAt s (s.l.length - 1)).2 : Int)
theorem lq_begin {W w1 w2 w3 : World} {x : Nat → Int} {g h : Nat} {K : List Kb} (h1 : NG W (newN x) g K w1) (hw : BW w1 w2) {q : Npl} (h2 : RnAt (newN x) q w2) (hq : ∀ k ∈ q.foot, w1.heap.size ≤ k) (e : q.g = h) : NLQ W (newN x) (newN x) g h [] w2 := by
  obtain ⟨ok, p, e1, a1, f1, hb, hk⟩ := h1
  exact ⟨newN_ok _, newN_ok _, p, q, e1, e, Two.on a1 hw, h2, f1, fun k hk => Nat.le_trans (Below.size hb) (hq k hk), fun k hk hm => by have x1 := Two.lt a1 k hk; have x2 := hq k hm; omega, BW.on hb hw, fun b hb => (by cases hb), fun b hb => (by cases hb)⟩
theorem ex_neB {P : Program} {o : Oper} {a : Act} {w : World} {t u : TypeId} {x y : Operand} {b : Bool} (ho : o.op = .binOp .neq t x y u) (hx : a.eval x = .bool b) (hy : a.eval y = .bool b) (hu : P.underlying t = some .bool) :
    (execOp a.eval o).run P w = .ok (.value (.bool false)) w := by
  unfold execOp
  simp only [ho, hx, hy]
  cases b <;> simp [go_sem, eqGuard, hu]
set_option maxHeartbeats 32000000 in
theorem plays15_walk (x : Nat → Int) (A1 : Option Addr) (c1 : Nat) (l1 : List Nac) (W : World) (h1 : l1.length ≤ 9223372036854775807) (r1 : Rd W W.heap.size A1 (cellsNac l1)) :
    Calls Try.prog 3 #[.agg (xCells x), .slice A1 l1.length c1] W fun e w' => e = .returned (.bool true) ∧ BW W w' := by
  have HR1 := Lib.hid r1
  have HB0 := Lib.hid (BW.new (Below.refl _ W) (.cells (xCells x) 23))
  have K0 := Lib.hid (Blk.new (xCells x) 23 W)
  have HAL := Lib.hid alive15_any
  have HAF : True := trivial
  clear r1
  go_enter Try.func3, Try.ntmps3
  go_upto_region 1 with (fail)
  obtain ⟨B, hB⟩ : ∃ B, W.heap.size = B := ⟨_, rfl⟩
  try rw [hB] at K0
  try rw [hB]
  clear hB
  generalize World.alloc W _ = w0 at *
  go_upto_region 3 with (first
    | (go_at_call 7; (have HFIRST := HAF); clear HAF; refine (HAL.out _).mono ?_; rintro e w1 ⟨rfl, hb⟩; have HB1 := Lib.hid (BW.on HB0.out hb); have K1 := Lib.hid (K0.out.on hb); clear hb))
  refine wp_region_held (S := fun y => BW W y ∧ Blk (xCells x) 23 B y) (by kernel_rfl) ?_
  change wpAnyH _ _ _ _ _ _ _ _ (World.drew _)
  have HS1 : BW W w1.drew ∧ Blk (xCells x) 23 B w1.drew := ⟨Below.drew HB1.out, K1.out.drew⟩
  clear K0 K1 HB1 HB0
  generalize World.drew _ = w2 at *
  refine hk_val (i := 0) (oi := ⟨some 21, .load _ _, _, _, _, _⟩) (.agg (xCells x)) rfl (by kernel_rfl) (by kernel_rfl) (by kernel_rfl) (fun _ _ _ h => h) (by kernel_rfl) (fun y hy => Hz.ex_load_all 23 (.tmp 2) rfl rfl hy.2 Try.underlying23 rfl (by rw [xCells_size]; kernel_rfl)) HS1 ?_
  simp only [Act.put, List.setIfInBounds_toArray, List.set_cons_zero, List.set_cons_succ]
  refine hk_val (i := 2) (oi := ⟨some 23, .load _ _, _, _, _, _⟩) (.agg (xCells x)) rfl (by kernel_rfl) (by kernel_rfl) (by kernel_rfl) (fun _ _ _ h => h) (by kernel_rfl) (fun y hy => Hz.ex_load_all 23 (.tmp 2) rfl rfl hy.2 Try.underlying23 rfl (by rw [xCells_size]; kernel_rfl)) HS1 ?_
  simp only [Act.put, List.setIfInBounds_toArray, List.set_cons_zero, List.set_cons_succ]
  refine hk_call (i := 1) (oi := ⟨some 22, .call _, _, _, _, _⟩) (by kernel_rfl) rfl (by kernel_rfl) (by first | rfl | kernel_rfl) (ng_new x W _ HS1.1 [] (fun b hb => by cases hb)) ?_
  rintro e w4 ⟨g, rfl, hng4, _, hb4⟩
  have HS2 : BW W w4 ∧ Blk (xCells x) 23 B w4 := ⟨BW.on HS1.1 hb4, HS1.2.on hb4⟩
  refine ⟨_, rfl, HS2, ?_⟩
  simp only [Act.put, List.setIfInBounds_toArray, List.set_cons_zero, List.set_cons_succ]
  refine hk_call (i := 3) (oi := ⟨some 24, .call _, _, _, _, _⟩) (by kernel_rfl) rfl (by kernel_rfl) (by first | rfl | kernel_rfl) (rnew15_c x _) ?_
  rintro e w5 ⟨q5, rfl, hrn, hqf, hb5⟩
  have HS3 : BW W w5 ∧ Blk (xCells x) 23 B w5 := ⟨BW.on HS2.1 hb5, HS2.2.on hb5⟩
  refine ⟨_, rfl, HS3, ?_⟩
  simp only [Act.put, List.setIfInBounds_toArray, List.set_cons_zero, List.set_cons_succ]
  refine hk_val (i := 4) (oi := ⟨some 5, .assign _, _, _, _, _⟩) (.pointer (some ⟨g, 0, none⟩)) rfl (by kernel_rfl) (by kernel_rfl) (by kernel_rfl) (fun _ _ _ h => h) (by kernel_rfl) (fun _ _ => rfl) HS3 ?_
  simp only [Act.put, List.setIfInBounds_toArray, List.set_cons_zero, List.set_cons_succ]
  refine hk_val (i := 5) (oi := ⟨some 6, .assign _, _, _, _, _⟩) (.pointer (some ⟨q5.g, 0, none⟩)) rfl (by kernel_rfl) (by kernel_rfl) (by kernel_rfl) (fun _ _ _ h => h) (by kernel_rfl) (fun _ _ => rfl) HS3 ?_
  simp only [Act.put, List.setIfInBounds_toArray, List.set_cons_zero, List.set_cons_succ]
  refine wpAnyH_done (by kernel_rfl) ?_ _
  have HQ := Lib.hid (lq_begin (w3 := W) hng4 hb5 hrn hqf rfl)
  clear hng4 hb5 hrn hqf HS1 HS2 HS3
  generalize q5.g = h at *
  generalize newN _ = s0 at *
  go_wp2
  go_loopw [7, 8, 9, 10, 11, 12, 13] (fun i _ _ _ _ _ _ wx => ∃ k : Nat, k ≤ l1.length ∧ k ≤ 60 ∧ i = .int .i64 (k : Int) ∧ Hid (∃ s, NLQ W s s g h [] wx)) (fun i _ _ _ _ _ _ _ => 60 - (intOf i).toNat)
  case atStart => exact ⟨0, by omega, by omega, rfl, _, HQ.out⟩
  case round =>
    obtain ⟨k, hk, hk6, rfl, HX⟩ := hrel
    clear HQ
    obtain ⟨s, hs⟩ := HX.out
    clear HX
    by_cases hc : k < l1.length ∧ k < 60
    · obtain ⟨hlt, hlt6⟩ := hc
      have hltI : (k : Int) < (l1.length : Int) := by omega
      have hlt6I : (k : Int) < 60 := by omega
      obtain ⟨b, off, rfl, hb, hcs⟩ := rd_nac HR1.out hlt
      have HCS := Lib.hid (fun j v hv => (Below.cell hs.low (p := ⟨b, off + k * 3 + j, none⟩) hb).trans (hcs j v hv))
      generalize l1[k] = y at *
      obtain ⟨kd, n, v⟩ := y
      have HCS := Lib.hid (three_at (y := ⟨kd, n, v⟩) HCS.out)
      dsimp only at HCS
      have HX1 := Lib.hid (hs.new #[.int .i64 kd, .int .i64 n, .int .u64 v] 31)
      obtain ⟨Ba, hBa⟩ : ∃ Ba, wr.heap.size = Ba := ⟨_, rfl⟩
      rw [hBa] at HX1
      obtain ⟨K, hK⟩ : ∃ K : List Kb, [((#[.int .i64 kd, .int .i64 n, .int .u64 v] : Array Value), 31, Ba)] = K := ⟨_, rfl⟩
      have HKM : Hid (((#[.int .i64 kd, .int .i64 n, .int .u64 v] : Array Value), 31, Ba) ∈ K) := by show _ ∈ _; rw [← hK]; exact List.mem_cons_self
      have HC : Hid (∀ (s t : Nst) (y : World), NLQ W s t g h K y → y.cell? ⟨Ba, 0, none⟩ = some (.int .i64 kd) ∧ y.cell? ⟨Ba, 1, none⟩ = some (.int .i64 n) ∧ y.cell? ⟨Ba, 2, none⟩ = some (.int .u64 v)) := fun s t y hy => ⟨(hy.blk HKM.out).cell 0, (hy.blk HKM.out).cell 1, (hy.blk HKM.out).cell 2⟩
      rw [hK] at HX1
      clear hcs hb hs hK HKM
      go_upto_region 9 with (first
        | (with_reducible refine Hz.val_arm (o := ⟨some 38, .load _ _, _, _, _, _⟩) (by kernel_rfl) (Hz.ex_load_cells [.int .i64 kd, .int .i64 n, .int .u64 v] rfl rfl HCS.out Try.underlying31 rfl (by kernel_rfl)) ?_))
      try rw [hBa]
      clear hBa HCS
      generalize World.alloc wr _ = wA at *
      obtain ⟨A9, c9, hh9, q9, hr9⟩ := lr_rows HX1.out
      obtain ⟨L, hL⟩ : ∃ L, s.l.length = L := ⟨_, rfl⟩
      have HLA : Hid (lastN s = if L = 0 then 0 else ((claAt s (L - 1)).2 : Int)) := by show _ = _; rw [← hL]; rfl
      have hlen := HX1.out.oks.1.len
      rw [hL] at q9 hr9 hlen
      go_upto_if 44 with (fail)
      go_cut [9, 44] from 45 to 57 (fun u9 _ wx => u9 = .int .i64 (lastN s) ∧ Hid (NLQ W s s g h K wx))
      case first =>
        by_cases hl0 : L = 0
        · have e0 : ¬ (0 : Int) < (L : Int) := by omega
          have HL0 : Hid (lastN s = 0) := HLA.out.trans (if_pos hl0)
          clear hl0 HLA
          go_wp2
          go_meet
          case rel => exact ⟨by rw [HL0.out], HX1⟩
        · have e0 : (0 : Int) < (L : Int) := by omega
          obtain ⟨b9, o9, rfl, hb9, d9⟩ := hr9 (by omega)
          have HL0 : Hid (lastN s = ((claAt s (L - 1)).2 : Int)) := HLA.out.trans (if_neg hl0)
          clear HLA
          have hLJ : (L : Int) - 1 = ((L - 1 : Nat) : Int) := by omega
          generalize ((claAt s (L - 1)).2 : Int) = lc at *
          go_wp2_with (fail)
          refine wp_region_held (S := fun y => NLQ W s s g h K y ∧ BW wA y) (by kernel_rfl) ?_
          change wpAnyH _ _ _ _ _ _ _ _ (World.drew _)
          have HS5 : NLQ W s s g h K wA.drew ∧ BW wA wA.drew := ⟨HX1.out.on (Below.drew (Below.refl _ _)), Below.drew (Below.refl _ _)⟩
          have HCQ := Lib.hid (fun y (hy : BW wA y) => (Below.cell hy (p := ⟨h, 128, none⟩) hh9).trans q9)
          have HCD := Lib.hid (fun y (hy : BW wA y) => (Below.cell hy (p := ⟨b9, o9 + (L - 1) * 4 + 1, none⟩) hb9).trans d9)
          clear HX1 q9 d9
          generalize hdw : World.drew wA = w5 at *
          clear hdw
          refine hk_val (i := 0) (oi := ⟨some 45, .move _, _, _, _, _⟩) (.pointer (some ⟨h, 0, none⟩)) rfl (by kernel_rfl) (by kernel_rfl) (by kernel_rfl) (fun _ _ _ h => h) (by kernel_rfl) (fun _ _ => rfl) HS5 ?_
          simp only [Act.put, List.setIfInBounds_toArray, List.set_cons_zero, List.set_cons_succ]
          refine hk_val (i := 1) (oi := ⟨some 46, .nilCheck _, _, _, _, _⟩) (.pointer (some ⟨h, 0, none⟩)) rfl (by kernel_rfl) (by kernel_rfl) (by kernel_rfl) (fun _ _ _ h => h) (by kernel_rfl) (fun _ _ => rfl) HS5 ?_
          simp only [Act.put, List.setIfInBounds_toArray, List.set_cons_zero, List.set_cons_succ]
          refine hk_val (i := 2) (oi := ⟨some 47, .fieldAddr _ _ _, _, _, _, _⟩) (.pointer (some ⟨h, 128, none⟩)) rfl (by kernel_rfl) (by kernel_rfl) (by kernel_rfl) (fun _ _ _ h => h) (by kernel_rfl) (fun _ _ => by kernel_rfl) HS5 ?_
          simp only [Act.put, List.setIfInBounds_toArray, List.set_cons_zero, List.set_cons_succ]
          refine hk_val (i := 3) (oi := ⟨some 48, .load _ _, _, _, _, _⟩) (.slice (some ⟨b9, o9, none⟩) L c9) rfl (by kernel_rfl) (by kernel_rfl) (by kernel_rfl) (fun _ _ _ h => h) (by kernel_rfl) (fun y hy => ex_load rfl rfl (HCQ.out y hy.2) (by kernel_rfl)) HS5 ?_
          simp only [Act.put, List.setIfInBounds_toArray, List.set_cons_zero, List.set_cons_succ]
          refine hk_val (i := 4) (oi := ⟨some 49, .move _, _, _, _, _⟩) (.pointer (some ⟨h, 0, none⟩)) rfl (by kernel_rfl) (by kernel_rfl) (by kernel_rfl) (fun _ _ _ h => h) (by kernel_rfl) (fun _ _ => rfl) HS5 ?_
          simp only [Act.put, List.setIfInBounds_toArray, List.set_cons_zero, List.set_cons_succ]
          refine hk_val (i := 5) (oi := ⟨some 50, .nilCheck _, _, _, _, _⟩) (.pointer (some ⟨h, 0, none⟩)) rfl (by kernel_rfl) (by kernel_rfl) (by kernel_rfl) (fun _ _ _ h => h) (by kernel_rfl) (fun _ _ => rfl) HS5 ?_
          simp only [Act.put, List.setIfInBounds_toArray, List.set_cons_zero, List.set_cons_succ]
          refine hk_val (i := 6) (oi := ⟨some 51, .fieldAddr _ _ _, _, _, _, _⟩) (.pointer (some ⟨h, 128, none⟩)) rfl (by kernel_rfl) (by kernel_rfl) (by kernel_rfl) (fun _ _ _ h => h) (by kernel_rfl) (fun _ _ => by kernel_rfl) HS5 ?_
          simp only [Act.put, List.setIfInBounds_toArray, List.set_cons_zero, List.set_cons_succ]
          refine hk_val (i := 7) (oi := ⟨some 52, .load _ _, _, _, _, _⟩) (.slice (some ⟨b9, o9, none⟩) L c9) rfl (by kernel_rfl) (by kernel_rfl) (by kernel_rfl) (fun _ _ _ h => h) (by kernel_rfl) (fun y hy => ex_load rfl rfl (HCQ.out y hy.2) (by kernel_rfl)) HS5 ?_
          simp only [Act.put, List.setIfInBounds_toArray, List.set_cons_zero, List.set_cons_succ]
          refine hk_val (i := 8) (oi := ⟨some 53, .call _, _, _, _, _⟩) (.int .i64 (L : Int)) rfl (by kernel_rfl) (by kernel_rfl) (by kernel_rfl) (fun _ _ _ h => h) (by kernel_rfl) (fun _ _ => by kernel_rfl) HS5 ?_
          simp only [Act.put, List.setIfInBounds_toArray, List.set_cons_zero, List.set_cons_succ]
          refine hk_val (i := 9) (oi := ⟨some 54, .binOp _ _ _ _ _, _, _, _, _⟩) (.int .i64 ((L - 1 : Nat) : Int)) rfl (by kernel_rfl) (by kernel_rfl) (by kernel_rfl) (fun _ _ _ h => h) (by kernel_rfl) (fun _ _ => ex_sub1 rfl rfl hLJ (by omega)) HS5 ?_
          simp only [Act.put, List.setIfInBounds_toArray, List.set_cons_zero, List.set_cons_succ]
          refine hk_val (i := 10) (oi := ⟨some 55, .indexAddr _ _ _, _, _, _, _⟩) (.pointer (some ⟨b9, o9 + (L - 1) * 4, none⟩)) rfl (by kernel_rfl) (by kernel_rfl) (by kernel_rfl) (fun _ _ _ h => h) (by kernel_rfl) (fun _ _ => Hz.ex_indexp (j := L - 1) (z := 4) rfl rfl rfl rfl (by omega) Try.underlying35 (by kernel_rfl) rfl) HS5 ?_
          simp only [Act.put, List.setIfInBounds_toArray, List.set_cons_zero, List.set_cons_succ]
          refine hk_val (i := 11) (oi := ⟨some 56, .fieldAddr _ _ _, _, _, _, _⟩) (.pointer (some ⟨b9, o9 + (L - 1) * 4 + 1, none⟩)) rfl (by kernel_rfl) (by kernel_rfl) (by kernel_rfl) (fun _ _ _ h => h) (by kernel_rfl) (fun _ _ => by kernel_rfl) HS5 ?_
          simp only [Act.put, List.setIfInBounds_toArray, List.set_cons_zero, List.set_cons_succ]
          refine hk_val (i := 12) (oi := ⟨some 57, .load _ _, _, _, _, _⟩) (.int .i64 lc) rfl (by kernel_rfl) (by kernel_rfl) (by kernel_rfl) (fun _ _ _ h => h) (by kernel_rfl) (fun y hy => ex_load rfl rfl (HCD.out y hy.2) (by kernel_rfl)) HS5 ?_
          simp only [Act.put, List.setIfInBounds_toArray, List.set_cons_zero, List.set_cons_succ]
          refine hk_val (i := 13) (oi := ⟨some 9, .assign _, _, _, _, _⟩) (.int .i64 lc) rfl (by kernel_rfl) (by kernel_rfl) (by kernel_rfl) (fun _ _ _ h => h) (by kernel_rfl) (fun _ _ => rfl) HS5 ?_
          simp only [Act.put, List.setIfInBounds_toArray, List.set_cons_zero, List.set_cons_succ]
          refine wpAnyH_done (by kernel_rfl) ?_ _
          go_wp2
          go_meet
          case rel => exact ⟨by rw [HL0.out], HS5.1⟩
      case rest =>
      obtain ⟨rfl, HX2⟩ := hcut
      clear HX1 q9 hr9 hh9 HLA hL hlen
      generalize lastN s = la at *
      have qk := (HC.out _ _ _ HX2.out).1
      go_upto_block 2 with (fail)
      clear qk
      go_cut [10, 11, 12, 13] from 60 to 125 (fun _ _ _ _ wx => Hid (∃ s, NLQ W s s g h K wx))
      case first =>
        obtain ⟨_, qn, qv⟩ := HC.out _ _ _ HX2.out
        by_cases h0 : kd = 0
        · subst h0
          have HP := Lib.hid (lq_claim HX2.out n)
          have HD := Lib.hid (fun u y (hy : NLQ W u s g h K y) => lr_claim hy n)
          generalize (claN s n).2.1 = ca at *
          generalize (claN s n).2.2 = cb at *
          generalize (claN s n).1 = t at *
          cases cb
          all_goals
            go_wp2_with (first
              | (go_at_call 10; refine HP.out.mono ?_; rintro e w6 ⟨rfl, hx6⟩; have HX6 := Lib.hid hx6; obtain ⟨_, qn6, _⟩ := HC.out _ _ _ hx6; clear hx6)
              | (go_at_call 11; refine (HD.out _ _ HX6.out).mono ?_; rintro e w7 ⟨rfl, hx7⟩; have HX7 : Hid (∃ s, NLQ W s s g h K w7) := ⟨_, hx7⟩; clear hx7))
            go_meet
            case rel => exact HX7
        have e0 : (kd == 0) = false := by simpa using h0
        by_cases h1 : kd = 1
        · subst h1
          have HP := Lib.hid (fun y (hy : NLQ W s s g h K y) => lq_set hy n v)
          have HD := Lib.hid (fun u y (hy : NLQ W u s g h K y) => lr_set hy n v)
          generalize hasN s n = cb at *
          generalize setN s n v = t at *
          go_wp2_with (fail)
          refine wp_region_held (S := fun y => ∃ a b, NLQ W a b g h K y) (by kernel_rfl) ?_
          change wpAnyH _ _ _ _ _ _ _ _ (World.drew _)
          have HN5 := HX2.out.on (Below.drew (Below.refl _ _))
          have HS5 : ∃ a b, NLQ W a b g h K _ := ⟨_, _, HN5⟩
          clear HX2 qn qv
          generalize World.drew _ = w5 at *
          refine hk_val (i := 0) (oi := ⟨some 86, .move _, _, _, _, _⟩) (.pointer (some ⟨g, 0, none⟩)) rfl (by kernel_rfl) (by kernel_rfl) (by kernel_rfl) (fun _ _ _ h => h) (by kernel_rfl) (fun _ _ => rfl) HS5 ?_
          simp only [Act.put, List.setIfInBounds_toArray, List.set_cons_zero, List.set_cons_succ]
          refine hk_val (i := 1) (oi := ⟨some 87, .fieldAddr _ _ _, _, _, _, _⟩) (.pointer (some ⟨Ba, 1, none⟩)) rfl (by kernel_rfl) (by kernel_rfl) (by kernel_rfl) (fun _ _ _ h => h) (by kernel_rfl) (fun _ _ => by kernel_rfl) HS5 ?_
          simp only [Act.put, List.setIfInBounds_toArray, List.set_cons_zero, List.set_cons_succ]
          refine hk_val (i := 2) (oi := ⟨some 88, .load _ _, _, _, _, _⟩) (.int .i64 n) rfl (by kernel_rfl) (by kernel_rfl) (by kernel_rfl) (fun _ _ _ h => h) (by kernel_rfl) (fun y hy => (by obtain ⟨a, b, hy⟩ := hy; exact ex_load rfl rfl (HC.out _ _ _ hy).2.1 (by kernel_rfl))) HS5 ?_
          simp only [Act.put, List.setIfInBounds_toArray, List.set_cons_zero, List.set_cons_succ]
          refine hk_val (i := 3) (oi := ⟨some 89, .fieldAddr _ _ _, _, _, _, _⟩) (.pointer (some ⟨Ba, 2, none⟩)) rfl (by kernel_rfl) (by kernel_rfl) (by kernel_rfl) (fun _ _ _ h => h) (by kernel_rfl) (fun _ _ => by kernel_rfl) HS5 ?_
          simp only [Act.put, List.setIfInBounds_toArray, List.set_cons_zero, List.set_cons_succ]
          refine hk_val (i := 4) (oi := ⟨some 90, .load _ _, _, _, _, _⟩) (.int .u64 v) rfl (by kernel_rfl) (by kernel_rfl) (by kernel_rfl) (fun _ _ _ h => h) (by kernel_rfl) (fun y hy => (by obtain ⟨a, b, hy⟩ := hy; exact ex_load rfl rfl (HC.out _ _ _ hy).2.2 (by kernel_rfl))) HS5 ?_
          simp only [Act.put, List.setIfInBounds_toArray, List.set_cons_zero, List.set_cons_succ]
          refine hk_val (i := 6) (oi := ⟨some 92, .move _, _, _, _, _⟩) (.pointer (some ⟨h, 0, none⟩)) rfl (by kernel_rfl) (by kernel_rfl) (by kernel_rfl) (fun _ _ _ h => h) (by kernel_rfl) (fun _ _ => rfl) HS5 ?_
          simp only [Act.put, List.setIfInBounds_toArray, List.set_cons_zero, List.set_cons_succ]
          refine hk_val (i := 7) (oi := ⟨some 93, .fieldAddr _ _ _, _, _, _, _⟩) (.pointer (some ⟨Ba, 1, none⟩)) rfl (by kernel_rfl) (by kernel_rfl) (by kernel_rfl) (fun _ _ _ h => h) (by kernel_rfl) (fun _ _ => by kernel_rfl) HS5 ?_
          simp only [Act.put, List.setIfInBounds_toArray, List.set_cons_zero, List.set_cons_succ]
          refine hk_val (i := 8) (oi := ⟨some 94, .load _ _, _, _, _, _⟩) (.int .i64 n) rfl (by kernel_rfl) (by kernel_rfl) (by kernel_rfl) (fun _ _ _ h => h) (by kernel_rfl) (fun y hy => (by obtain ⟨a, b, hy⟩ := hy; exact ex_load rfl rfl (HC.out _ _ _ hy).2.1 (by kernel_rfl))) HS5 ?_
          simp only [Act.put, List.setIfInBounds_toArray, List.set_cons_zero, List.set_cons_succ]
          refine hk_val (i := 9) (oi := ⟨some 95, .fieldAddr _ _ _, _, _, _, _⟩) (.pointer (some ⟨Ba, 2, none⟩)) rfl (by kernel_rfl) (by kernel_rfl) (by kernel_rfl) (fun _ _ _ h => h) (by kernel_rfl) (fun _ _ => by kernel_rfl) HS5 ?_
          simp only [Act.put, List.setIfInBounds_toArray, List.set_cons_zero, List.set_cons_succ]
          refine hk_val (i := 10) (oi := ⟨some 96, .load _ _, _, _, _, _⟩) (.int .u64 v) rfl (by kernel_rfl) (by kernel_rfl) (by kernel_rfl) (fun _ _ _ h => h) (by kernel_rfl) (fun y hy => (by obtain ⟨a, b, hy⟩ := hy; exact ex_load rfl rfl (HC.out _ _ _ hy).2.2 (by kernel_rfl))) HS5 ?_
          simp only [Act.put, List.setIfInBounds_toArray, List.set_cons_zero, List.set_cons_succ]
          refine hk_call (i := 5) (oi := ⟨some 91, .call _, _, _, _, _⟩) (by kernel_rfl) rfl (by kernel_rfl) (by first | rfl | kernel_rfl) (HP.out _ HN5) ?_
          rintro e w6 ⟨rfl, HN6⟩
          have HS6 : ∃ a b, NLQ W a b g h K w6 := ⟨_, _, HN6⟩
          refine ⟨_, rfl, HS6, ?_⟩
          simp only [Act.put, List.setIfInBounds_toArray, List.set_cons_zero, List.set_cons_succ]
          refine hk_call (i := 11) (oi := ⟨some 97, .call _, _, _, _, _⟩) (by kernel_rfl) rfl (by kernel_rfl) (by first | rfl | kernel_rfl) (HD.out _ _ HN6) ?_
          rintro e w7 ⟨rfl, HN7⟩
          have HS7 : ∃ a b, NLQ W a b g h K w7 := ⟨_, _, HN7⟩
          refine ⟨_, rfl, HS7, ?_⟩
          simp only [Act.put, List.setIfInBounds_toArray, List.set_cons_zero, List.set_cons_succ]
          refine hk_val (i := 12) (oi := ⟨some 98, .binOp _ _ _ _ _, _, _, _, _⟩) (.bool false) rfl (by kernel_rfl) (by kernel_rfl) (by kernel_rfl) (fun _ _ _ h => h) (by kernel_rfl) (fun _ _ => ex_neB rfl rfl rfl Try.underlying4) HS7 ?_
          simp only [Act.put, List.setIfInBounds_toArray, List.set_cons_zero, List.set_cons_succ]
          refine wpAnyH_done (by kernel_rfl) ?_ _
          go_wp2
          go_meet
          case rel => exact ⟨_, HN7⟩
        have e1 : (kd == 1) = false := by simpa using h1
        by_cases h2 : kd = 2
        · subst h2
          have HP := Lib.hid (lq_retire HX2.out)
          have HD := Lib.hid (fun u y (hy : NLQ W u s g h K y) => lr_retire hy)
          generalize retOk s = cb at *
          generalize retN s = t at *
          cases cb
          all_goals
            go_wp2_with (first
              | (go_at_call 14; refine HP.out.mono ?_; rintro e w6 ⟨rfl, hx6⟩; have HX6 := Lib.hid hx6; clear hx6)
              | (go_at_call 15; refine (HD.out _ _ HX6.out).mono ?_; rintro e w7 ⟨rfl, hx7⟩; have HX7 : Hid (∃ s, NLQ W s s g h K w7) := ⟨_, hx7⟩; clear hx7))
            go_meet
            case rel => exact HX7
        have e2 : (kd == 2) = false := by simpa using h2
        by_cases h3 : kd = 3
        · subst h3
          have HP := Lib.hid (lq_undo HX2.out)
          have HD := Lib.hid (fun u y (hy : NLQ W u s g h K y) => lr_undo hy)
          generalize undOk s = cb at *
          generalize undN s = t at *
          cases cb
          all_goals
            go_wp2_with (first
              | (go_at_call 16; refine HP.out.mono ?_; rintro e w6 ⟨rfl, hx6⟩; have HX6 := Lib.hid hx6; clear hx6)
              | (go_at_call 17; refine (HD.out _ _ HX6.out).mono ?_; rintro e w7 ⟨rfl, hx7⟩; have HX7 : Hid (∃ s, NLQ W s s g h K w7) := ⟨_, hx7⟩; clear hx7))
            go_meet
            case rel => exact HX7
        have e3 : (kd == 3) = false := by simpa using h3
        by_cases h4 : kd = 4
        · subst h4
          have HP := Lib.hid (fun y (hy : NLQ W s s g h K y) => lq_set hy la v)
          have HD := Lib.hid (fun u y (hy : NLQ W u s g h K y) => lr_set hy la v)
          generalize hasN s la = cb at *
          generalize setN s la v = t at *
          go_wp2_with (fail)
          refine wp_region_held (S := fun y => ∃ a b, NLQ W a b g h K y) (by kernel_rfl) ?_
          change wpAnyH _ _ _ _ _ _ _ _ (World.drew _)
          have HN5 := HX2.out.on (Below.drew (Below.refl _ _))
          have HS5 : ∃ a b, NLQ W a b g h K _ := ⟨_, _, HN5⟩
          clear HX2 qn qv
          generalize World.drew _ = w5 at *
          refine hk_val (i := 0) (oi := ⟨some 115, .move _, _, _, _, _⟩) (.pointer (some ⟨g, 0, none⟩)) rfl (by kernel_rfl) (by kernel_rfl) (by kernel_rfl) (fun _ _ _ h => h) (by kernel_rfl) (fun _ _ => rfl) HS5 ?_
          simp only [Act.put, List.setIfInBounds_toArray, List.set_cons_zero, List.set_cons_succ]
          refine hk_val (i := 1) (oi := ⟨some 116, .move _, _, _, _, _⟩) (.int .i64 la) rfl (by kernel_rfl) (by kernel_rfl) (by kernel_rfl) (fun _ _ _ h => h) (by kernel_rfl) (fun _ _ => rfl) HS5 ?_
          simp only [Act.put, List.setIfInBounds_toArray, List.set_cons_zero, List.set_cons_succ]
          refine hk_val (i := 2) (oi := ⟨some 117, .fieldAddr _ _ _, _, _, _, _⟩) (.pointer (some ⟨Ba, 2, none⟩)) rfl (by kernel_rfl) (by kernel_rfl) (by kernel_rfl) (fun _ _ _ h => h) (by kernel_rfl) (fun _ _ => by kernel_rfl) HS5 ?_
          simp only [Act.put, List.setIfInBounds_toArray, List.set_cons_zero, List.set_cons_succ]
          refine hk_val (i := 3) (oi := ⟨some 118, .load _ _, _, _, _, _⟩) (.int .u64 v) rfl (by kernel_rfl) (by kernel_rfl) (by kernel_rfl) (fun _ _ _ h => h) (by kernel_rfl) (fun y hy => (by obtain ⟨a, b, hy⟩ := hy; exact ex_load rfl rfl (HC.out _ _ _ hy).2.2 (by kernel_rfl))) HS5 ?_
          simp only [Act.put, List.setIfInBounds_toArray, List.set_cons_zero, List.set_cons_succ]
          refine hk_val (i := 5) (oi := ⟨some 120, .move _, _, _, _, _⟩) (.pointer (some ⟨h, 0, none⟩)) rfl (by kernel_rfl) (by kernel_rfl) (by kernel_rfl) (fun _ _ _ h => h) (by kernel_rfl) (fun _ _ => rfl) HS5 ?_
          simp only [Act.put, List.setIfInBounds_toArray, List.set_cons_zero, List.set_cons_succ]
          refine hk_val (i := 6) (oi := ⟨some 121, .move _, _, _, _, _⟩) (.int .i64 la) rfl (by kernel_rfl) (by kernel_rfl) (by kernel_rfl) (fun _ _ _ h => h) (by kernel_rfl) (fun _ _ => rfl) HS5 ?_
          simp only [Act.put, List.setIfInBounds_toArray, List.set_cons_zero, List.set_cons_succ]
          refine hk_val (i := 7) (oi := ⟨some 122, .fieldAddr _ _ _, _, _, _, _⟩) (.pointer (some ⟨Ba, 2, none⟩)) rfl (by kernel_rfl) (by kernel_rfl) (by kernel_rfl) (fun _ _ _ h => h) (by kernel_rfl) (fun _ _ => by kernel_rfl) HS5 ?_
          simp only [Act.put, List.setIfInBounds_toArray, List.set_cons_zero, List.set_cons_succ]
          refine hk_val (i := 8) (oi := ⟨some 123, .load _ _, _, _, _, _⟩) (.int .u64 v) rfl (by kernel_rfl) (by kernel_rfl) (by kernel_rfl) (fun _ _ _ h => h) (by kernel_rfl) (fun y hy => (by obtain ⟨a, b, hy⟩ := hy; exact ex_load rfl rfl (HC.out _ _ _ hy).2.2 (by kernel_rfl))) HS5 ?_
          simp only [Act.put, List.setIfInBounds_toArray, List.set_cons_zero, List.set_cons_succ]
          refine hk_call (i := 4) (oi := ⟨some 119, .call _, _, _, _, _⟩) (by kernel_rfl) rfl (by kernel_rfl) (by first | rfl | kernel_rfl) (HP.out _ HN5) ?_
          rintro e w6 ⟨rfl, HN6⟩
          have HS6 : ∃ a b, NLQ W a b g h K w6 := ⟨_, _, HN6⟩
          refine ⟨_, rfl, HS6, ?_⟩
          simp only [Act.put, List.setIfInBounds_toArray, List.set_cons_zero, List.set_cons_succ]
          refine hk_call (i := 9) (oi := ⟨some 124, .call _, _, _, _, _⟩) (by kernel_rfl) rfl (by kernel_rfl) (by first | rfl | kernel_rfl) (HD.out _ _ HN6) ?_
          rintro e w7 ⟨rfl, HN7⟩
          have HS7 : ∃ a b, NLQ W a b g h K w7 := ⟨_, _, HN7⟩
          refine ⟨_, rfl, HS7, ?_⟩
          simp only [Act.put, List.setIfInBounds_toArray, List.set_cons_zero, List.set_cons_succ]
          refine hk_val (i := 10) (oi := ⟨some 125, .binOp _ _ _ _ _, _, _, _, _⟩) (.bool false) rfl (by kernel_rfl) (by kernel_rfl) (by kernel_rfl) (fun _ _ _ h => h) (by kernel_rfl) (fun _ _ => ex_neB rfl rfl rfl Try.underlying4) HS7 ?_
          simp only [Act.put, List.setIfInBounds_toArray, List.set_cons_zero, List.set_cons_succ]
          refine wpAnyH_done (by kernel_rfl) ?_ _
          go_wp2
          go_meet
          case rel => exact ⟨_, HN7⟩
        have e4 : (kd == 4) = false := by simpa using h4
        go_wp2
        go_meet
        case rel => exact ⟨_, HX2.out⟩
      case rest =>
      obtain ⟨s2, hs2⟩ := hcut.out
      clear HX2 hcut
      obtain ⟨A9, c9, hh9, q9, _⟩ := lr_rows hs2
      have HS4 := Lib.hid (show NLR W s2 g h K A9 c9 _ from ⟨hs2, hh9, q9⟩)
      clear hs2 q9 hh9
      go_upto_region 29 with (fail)
      refine wp_region_held (S := NLR W s2 g h K A9 c9) (by kernel_rfl) ?_
      change wpAnyH _ _ _ _ _ _ _ _ (World.drew _)
      have HS5 := HS4.out.on (Below.drew (Below.refl _ _))
      clear HS4
      generalize World.drew _ = w5 at *
      refine hk_val (i := 0) (oi := ⟨some 126, .move _, _, _, _, _⟩) (.pointer (some ⟨g, 0, none⟩)) rfl (by kernel_rfl) (by kernel_rfl) (by kernel_rfl) (fun _ _ _ h => h) (by kernel_rfl) (fun _ _ => rfl) HS5 ?_
      simp only [Act.put, List.setIfInBounds_toArray, List.set_cons_zero, List.set_cons_succ]
      refine hk_val (i := 2) (oi := ⟨some 128, .move _, _, _, _, _⟩) (.pointer (some ⟨h, 0, none⟩)) rfl (by kernel_rfl) (by kernel_rfl) (by kernel_rfl) (fun _ _ _ h => h) (by kernel_rfl) (fun _ _ => rfl) HS5 ?_
      simp only [Act.put, List.setIfInBounds_toArray, List.set_cons_zero, List.set_cons_succ]
      refine hk_val (i := 3) (oi := ⟨some 129, .nilCheck _, _, _, _, _⟩) (.pointer (some ⟨h, 0, none⟩)) rfl (by kernel_rfl) (by kernel_rfl) (by kernel_rfl) (fun _ _ _ h => h) (by kernel_rfl) (fun _ _ => rfl) HS5 ?_
      simp only [Act.put, List.setIfInBounds_toArray, List.set_cons_zero, List.set_cons_succ]
      refine hk_val (i := 4) (oi := ⟨some 130, .fieldAddr _ _ _, _, _, _, _⟩) (.pointer (some ⟨h, 128, none⟩)) rfl (by kernel_rfl) (by kernel_rfl) (by kernel_rfl) (fun _ _ _ h => h) (by kernel_rfl) (fun _ _ => by kernel_rfl) HS5 ?_
      simp only [Act.put, List.setIfInBounds_toArray, List.set_cons_zero, List.set_cons_succ]
      refine hk_val (i := 5) (oi := ⟨some 131, .load _ _, _, _, _, _⟩) (.slice A9 s2.l.length c9) rfl (by kernel_rfl) (by kernel_rfl) (by kernel_rfl) (fun _ _ _ h => h) (by kernel_rfl) (fun y hy => ex_load rfl rfl hy.2.2 (by kernel_rfl)) HS5 ?_
      simp only [Act.put, List.setIfInBounds_toArray, List.set_cons_zero, List.set_cons_succ]
      refine hk_val (i := 6) (oi := ⟨some 132, .call _, _, _, _, _⟩) (.int .i64 (s2.l.length : Int)) rfl (by kernel_rfl) (by kernel_rfl) (by kernel_rfl) (fun _ _ _ h => h) (by kernel_rfl) (fun _ _ => by kernel_rfl) HS5 ?_
      simp only [Act.put, List.setIfInBounds_toArray, List.set_cons_zero, List.set_cons_succ]
      refine hk_call (i := 1) (oi := ⟨some 127, .call _, _, _, _, _⟩) (by kernel_rfl) rfl (by kernel_rfl) (by first | rfl | kernel_rfl) (lq_claims HS5.1) ?_
      rintro e w6 ⟨rfl, rfl⟩
      have HS6 := HS5
      refine ⟨_, rfl, HS6, ?_⟩
      simp only [Act.put, List.setIfInBounds_toArray, List.set_cons_zero, List.set_cons_succ]
      refine hk_val (i := 7) (oi := ⟨some 133, .binOp _ _ _ _ _, _, _, _, _⟩) (.bool false) rfl (by kernel_rfl) (by kernel_rfl) (by kernel_rfl) (fun _ _ _ h => h) (by kernel_rfl) (fun _ _ => Hz.ex_neK rfl rfl rfl (by simp)) HS6 ?_
      simp only [Act.put, List.setIfInBounds_toArray, List.set_cons_zero, List.set_cons_succ]
      refine hk_val (i := 8) (oi := ⟨some 134, .move _, _, _, _, _⟩) (.bool false) rfl (by kernel_rfl) (by kernel_rfl) (by kernel_rfl) (fun _ _ _ h => h) (by kernel_rfl) (fun _ _ => rfl) HS6 ?_
      simp only [Act.put, List.setIfInBounds_toArray, List.set_cons_zero, List.set_cons_succ]
      refine hk_val (i := 9) (oi := ⟨some 135, .move _, _, _, _, _⟩) (.pointer (some ⟨g, 0, none⟩)) rfl (by kernel_rfl) (by kernel_rfl) (by kernel_rfl) (fun _ _ _ h => h) (by kernel_rfl) (fun _ _ => rfl) HS6 ?_
      simp only [Act.put, List.setIfInBounds_toArray, List.set_cons_zero, List.set_cons_succ]
      refine hk_val (i := 10) (oi := ⟨some 136, .fieldAddr _ _ _, _, _, _, _⟩) (.pointer (some ⟨Ba, 1, none⟩)) rfl (by kernel_rfl) (by kernel_rfl) (by kernel_rfl) (fun _ _ _ h => h) (by kernel_rfl) (fun _ _ => by kernel_rfl) HS6 ?_
      simp only [Act.put, List.setIfInBounds_toArray, List.set_cons_zero, List.set_cons_succ]
      refine hk_val (i := 11) (oi := ⟨some 137, .load _ _, _, _, _, _⟩) (.int .i64 n) rfl (by kernel_rfl) (by kernel_rfl) (by kernel_rfl) (fun _ _ _ h => h) (by kernel_rfl) (fun y hy => ex_load rfl rfl (HC.out _ _ _ hy.1).2.1 (by kernel_rfl)) HS6 ?_
      simp only [Act.put, List.setIfInBounds_toArray, List.set_cons_zero, List.set_cons_succ]
      refine hk_val (i := 13) (oi := ⟨some 139, .move _, _, _, _, _⟩) (.pointer (some ⟨h, 0, none⟩)) rfl (by kernel_rfl) (by kernel_rfl) (by kernel_rfl) (fun _ _ _ h => h) (by kernel_rfl) (fun _ _ => rfl) HS6 ?_
      simp only [Act.put, List.setIfInBounds_toArray, List.set_cons_zero, List.set_cons_succ]
      refine hk_val (i := 14) (oi := ⟨some 140, .fieldAddr _ _ _, _, _, _, _⟩) (.pointer (some ⟨Ba, 1, none⟩)) rfl (by kernel_rfl) (by kernel_rfl) (by kernel_rfl) (fun _ _ _ h => h) (by kernel_rfl) (fun _ _ => by kernel_rfl) HS6 ?_
      simp only [Act.put, List.setIfInBounds_toArray, List.set_cons_zero, List.set_cons_succ]
      refine hk_val (i := 15) (oi := ⟨some 141, .load _ _, _, _, _, _⟩) (.int .i64 n) rfl (by kernel_rfl) (by kernel_rfl) (by kernel_rfl) (fun _ _ _ h => h) (by kernel_rfl) (fun y hy => ex_load rfl rfl (HC.out _ _ _ hy.1).2.1 (by kernel_rfl)) HS6 ?_
      simp only [Act.put, List.setIfInBounds_toArray, List.set_cons_zero, List.set_cons_succ]
      refine hk_call (i := 12) (oi := ⟨some 138, .call _, _, _, _, _⟩) (by kernel_rfl) rfl (by kernel_rfl) (by first | rfl | kernel_rfl) (lq_look HS6.1 n) ?_
      rintro e w7 ⟨rfl, hb7⟩
      have HS7 := HS6.on hb7
      refine ⟨_, rfl, HS7, ?_⟩
      simp only [Act.put, List.setIfInBounds_toArray, List.set_cons_zero, List.set_cons_succ]
      refine hk_call (i := 16) (oi := ⟨some 142, .call _, _, _, _, _⟩) (by kernel_rfl) rfl (by kernel_rfl) (by first | rfl | kernel_rfl) (lr_look HS7.1 n) ?_
      rintro e w8 ⟨rfl, rfl⟩
      have HS8 := HS7
      refine ⟨_, rfl, HS8, ?_⟩
      simp only [Act.put, List.setIfInBounds_toArray, List.set_cons_zero, List.set_cons_succ]
      refine hk_val (i := 17) (oi := ⟨some 143, .binOp _ _ _ _ _, _, _, _, _⟩) (.bool false) rfl (by kernel_rfl) (by kernel_rfl) (by kernel_rfl) (fun _ _ _ h => h) (by kernel_rfl) (fun _ _ => Hz.ex_neK rfl rfl rfl (by simp)) HS8 ?_
      simp only [Act.put, List.setIfInBounds_toArray, List.set_cons_zero, List.set_cons_succ]
      refine hk_val (i := 18) (oi := ⟨some 144, .pick _ _ _, _, _, _, _⟩) (.bool false) rfl (by kernel_rfl) (by kernel_rfl) (by kernel_rfl) (fun _ _ _ h => h) (by kernel_rfl) (fun _ _ => rfl) HS8 ?_
      simp only [Act.put, List.setIfInBounds_toArray, List.set_cons_zero, List.set_cons_succ]
      refine hk_val (i := 19) (oi := ⟨some 145, .move _, _, _, _, _⟩) (.bool false) rfl (by kernel_rfl) (by kernel_rfl) (by kernel_rfl) (fun _ _ _ h => h) (by kernel_rfl) (fun _ _ => rfl) HS8 ?_
      simp only [Act.put, List.setIfInBounds_toArray, List.set_cons_zero, List.set_cons_succ]
      refine hk_val (i := 20) (oi := ⟨some 146, .move _, _, _, _, _⟩) (.pointer (some ⟨g, 0, none⟩)) rfl (by kernel_rfl) (by kernel_rfl) (by kernel_rfl) (fun _ _ _ h => h) (by kernel_rfl) (fun _ _ => rfl) HS8 ?_
      simp only [Act.put, List.setIfInBounds_toArray, List.set_cons_zero, List.set_cons_succ]
      refine hk_val (i := 22) (oi := ⟨some 148, .move _, _, _, _, _⟩) (.pointer (some ⟨h, 0, none⟩)) rfl (by kernel_rfl) (by kernel_rfl) (by kernel_rfl) (fun _ _ _ h => h) (by kernel_rfl) (fun _ _ => rfl) HS8 ?_
      simp only [Act.put, List.setIfInBounds_toArray, List.set_cons_zero, List.set_cons_succ]
      refine hk_call (i := 21) (oi := ⟨some 147, .call _, _, _, _, _⟩) (by kernel_rfl) rfl (by kernel_rfl) (by first | rfl | kernel_rfl) (lq_values HS8.1) ?_
      rintro e w9 ⟨rfl, hb9⟩
      have HSv := HS8.on hb9
      refine ⟨_, rfl, HSv, ?_⟩
      simp only [Act.put, List.setIfInBounds_toArray, List.set_cons_zero, List.set_cons_succ]
      refine hk_call (i := 23) (oi := ⟨some 149, .call _, _, _, _, _⟩) (by kernel_rfl) rfl (by kernel_rfl) (by first | rfl | kernel_rfl) (lr_values HSv.1) ?_
      rintro e w10 ⟨rfl, hb10⟩
      have HS9 := HSv.on hb10
      refine ⟨_, rfl, HS9, ?_⟩
      simp only [Act.put, List.setIfInBounds_toArray, List.set_cons_zero, List.set_cons_succ]
      refine hk_val (i := 24) (oi := ⟨some 150, .binOp _ _ _ _ _, _, _, _, _⟩) (.bool false) rfl (by kernel_rfl) (by kernel_rfl) (by kernel_rfl) (fun _ _ _ h => h) (by kernel_rfl) (fun _ _ => exec_cmpN rfl guard_xc rfl rfl (neq_xc _ _)) HS9 ?_
      simp only [Act.put, List.setIfInBounds_toArray, List.set_cons_zero, List.set_cons_succ]
      refine hk_val (i := 25) (oi := ⟨some 151, .pick _ _ _, _, _, _, _⟩) (.bool false) rfl (by kernel_rfl) (by kernel_rfl) (by kernel_rfl) (fun _ _ _ h => h) (by kernel_rfl) (fun _ _ => rfl) HS9 ?_
      simp only [Act.put, List.setIfInBounds_toArray, List.set_cons_zero, List.set_cons_succ]
      refine wpAnyH_done (by kernel_rfl) ?_ _
      go_wp2
      go_roundw
      case rel => exact ⟨k + 1, by omega, by omega, by first | rfl | go_num, s2, HS9.1.sub (fun b hb => by cases hb)⟩
      case measure => simp [intOf]; omega
    · obtain ⟨wA, rfl⟩ : ∃ x : World, x = wr := ⟨_, rfl⟩
      go_upto_region 5 with (fail)
      go_cut [32] from 25 to 32 (fun u31 wx => u31 = .bool false ∧ wA = wx)
      case first =>
        by_cases h1 : (k : Int) < (l1.length : Int)
        · have h60 : ¬ (k : Int) < 60 := by omega
          go_wp2
          go_meet
          case rel => exact ⟨by first | rfl | exact congrArg Value.bool (decide_eq_false (by omega)), rfl⟩
        · go_wp2
          go_meet
          case rel => exact ⟨by first | rfl | exact congrArg Value.bool (decide_eq_false (by omega)), rfl⟩
      case rest =>
      obtain ⟨rfl, rfl⟩ := hcut
      have HS := Lib.hid hs
      clear hc hs
      go_wp2
      go_loopw [14, 15, 16, 17, 18] (fun i _ _ _ _ wx => ∃ m : Nat, m ≤ 47 ∧ i = .int .i64 ((m : Int) - 1) ∧ Hid (NLQ W s s g h [] wx)) (fun i _ _ _ _ _ => (46 - intOf i).toNat)
      case atStart => exact ⟨0, by omega, by first | rfl | go_num, HS.out⟩
      case round =>
        obtain ⟨m, hm, rfl, HY⟩ := hrel
        clear HS
        obtain ⟨c, hcm⟩ : ∃ c : Int, (m : Int) - 1 = c := ⟨_, rfl⟩
        try rw [hcm]
        by_cases hlt : m < 47
        · have hcI : c < 46 := by omega
          have hcJ : c + 1 = ((m + 1 : Nat) : Int) - 1 := by omega
          have HV := Lib.hid (lq_value HY.out c)
          have HVD := Lib.hid (fun y (hy : NLQ W s s g h [] y) => lr_value hy c)
          have HLK := Lib.hid (fun y (hy : NLQ W s s g h [] y) => lq_look hy c)
          have HLD := Lib.hid (fun y (hy : NLQ W s s g h [] y) => lr_look hy c)
          generalize (valN s c).1 = v1 at *
          generalize (valN s c).2 = v2 at *
          generalize lookN s c = v3 at *
          have hc2 : -1 ≤ c := by omega
          cases v2
          all_goals
            go_wp2_with (first
              | (go_at_call 23; refine HV.out.mono ?_; rintro e w3 ⟨rfl, n3, rfl⟩; have HY3 := Lib.hid (HY.out.on (below_drewN' (Below.refl _ _) n3)))
              | (go_at_call 24; refine (HVD.out _ HY3.out).mono ?_; rintro e w4 ⟨rfl, hb4⟩; have HY4 := Lib.hid (HY3.out.on hb4); clear hb4)
              | (go_at_call 19; refine (HLK.out _ HY4.out).mono ?_; rintro e w5 ⟨rfl, hb5⟩; have HY5 := Lib.hid (HY4.out.on hb5); clear hb5)
              | (go_at_call 20; refine (HLD.out _ HY5.out).mono ?_; rintro e w6 ⟨rfl, rfl⟩))
            go_roundw
            case rel => exact ⟨m + 1, by omega, by first | rfl | rw [hcJ] | go_num, HY5⟩
            case measure => simp [intOf]; omega
        · have hcI : ¬ c < 46 := by omega
          go_wp2_with (first
            | (go_at_call 7; refine (HAL.out _).mono ?_; rintro e w9 ⟨rfl, hb9⟩; have HB9 := Lib.hid (BW.on HY.out.low hb9); clear hb9))
          go_ret
          exact ⟨rfl, HB9.out⟩
end Go.Proofs.Ytoahejjeihmiiaa
