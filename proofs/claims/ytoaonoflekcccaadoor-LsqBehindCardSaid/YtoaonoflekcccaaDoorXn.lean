/- Stage 16: alive. -/
import Derived.Test.YtoaonoflekcccaaDoorXm
set_option maxRecDepth 100000
set_option linter.unusedVariables false
namespace Go.Proofs.YtoaonoflekcccaaDoor
open Go.RowKit

def sltsC (l : List Slt) : Array Value := (cellsS l).toArray
theorem fl_blk {l : List Slt} {g : Nat} {y : World} (hb : Blk (sltsC l) 29 g y) (hw : Wslts l) (ht : TabL y) (hl : l.length ≤ 1000) : FL l (some ⟨g, 0, none⟩) y :=
  ⟨.inr ⟨g, 0, rfl, hb.lt, fun i v hv => by rw [Nat.zero_add, hb.cell]; unfold sltsC; rw [List.getElem?_toArray]; exact hv⟩, hw, ht, hl⟩
def sa1 : Slt := ⟨20, 0, 0, false, 5, false, 0, false, 0, false, fun _ => 0⟩
def sa2 : Slt := ⟨20, 0, 0, false, 5, true, 0, false, 0, false, fun _ => 0⟩
def sa3 : Slt := ⟨20, 0, 0, false, 5, true, 0, true, 0, false, fun _ => 0⟩
def sl1 : Slt := ⟨13, 0, 0, false, 0, true, 0, false, 0, false, fun _ => 0⟩
def sl2 : Slt := ⟨13, 0, 0, false, 0, true, 0, false, 0, true, fun _ => 0⟩
def sl3 : Slt := ⟨13, 0, 0, false, 0, true, 0, false, 0, true, fun k => if k = 3 then 7 else 0⟩
def sf1 : Slt := ⟨50, 1, 2, false, 0, false, 0, false, 0, false, fun _ => 0⟩
theorem life16 : waitS [sa1, sl1] 1 true = 0 ∧ waitS [sa2, sl1] 1 true = 4 ∧ srcS [sa3, sl2, sl3] 1 3 = 0 ∧ claS [sa3, sl2, sl3] 0 = 1 ∧ reoS [sa3, sl2, sl3] 1 = 2 ∧ passS [sf1] 0 true = true := by
  refine ⟨?_, ?_, ?_, ?_, ?_, ?_⟩ <;> decide +kernel
theorem wsl_lit : Wslts [sa1, sl1] ∧ Wslts [sa2, sl1] ∧ Wslts [sa3, sl2, sl3] ∧ Wslts [sf1] := by
  have h1 : Wslt sa1 := ⟨by unfold I64 sa1; decide, by unfold I64 sa1; decide⟩
  have h2 : Wslt sa2 := ⟨by unfold I64 sa2; decide, by unfold I64 sa2; decide⟩
  have h3 : Wslt sa3 := ⟨by unfold I64 sa3; decide, by unfold I64 sa3; decide⟩
  have h4 : Wslt sl1 := ⟨by unfold I64 sl1; decide, by unfold I64 sl1; decide⟩
  have h5 : Wslt sl2 := ⟨by unfold I64 sl2; decide, by unfold I64 sl2; decide⟩
  have h6 : Wslt sl3 := ⟨by unfold I64 sl3; decide, by unfold I64 sl3; decide⟩
  have h7 : Wslt sf1 := ⟨by unfold I64 sf1; decide, by unfold I64 sf1; decide⟩
  refine ⟨?_, ?_, ?_, ?_⟩ <;> intro x hx <;> simp at hx
  · rcases hx with rfl | rfl <;> assumption
  · rcases hx with rfl | rfl <;> assumption
  · rcases hx with rfl | rfl | rfl <;> assumption
  · rw [hx]; assumption
/-- Behind w: the store's box and the load's. -/
structure AL (s d : Slt) (w : World) (b1 b2 : Nat) (y : World) : Prop where
  low : BW w y
  s : Blk (sltC s) 29 b1 y
  d : Blk (sltC d) 29 b2 y
theorem AL.on {s d : Slt} {w y z : World} {b1 b2 : Nat} (h : AL s d w b1 b2 y) (k : Below y.heap.size y z) : AL s d w b1 b2 z := ⟨BW.on h.low k, h.s.on k, h.d.on k⟩
theorem AL.put {s s' d : Slt} {w y : World} {b1 b2 k : Nat} {v : Value} (h : AL s d w b1 b2 y) (hne : b2 ≠ b1) (hge : w.heap.size ≤ b1) (he : (sltC s).setIfInBounds k v = sltC s') : AL s' d w b1 b2 (y.setCell ⟨b1, k, none⟩ v) :=
  ⟨Below.setCell h.low hge v, by have := h.s.set k v; rw [he] at this; exact this, h.d.other hne v⟩
theorem AL.new (s d : Slt) (w : World) : AL s d w w.heap.size (w.heap.size + 1) ((w.alloc (.cells (sltC s) 29)).alloc (.cells (sltC d) 29)) := by
  have h := X2.new (sltC s) (sltC d) w
  exact ⟨h.low, h.b0, h.b1⟩
/-- .. a list in a block of its own. -/
structure AG (l : List Slt) (w : World) (g : Nat) (y : World) : Prop where
  low : BW w y
  ge : w.heap.size ≤ g
  at0 : Blk (sltsC l) 29 g y
theorem AG.on {l : List Slt} {w y z : World} {g : Nat} (h : AG l w g y) (k : Below y.heap.size y z) : AG l w g z := ⟨BW.on h.low k, h.ge, h.at0.on k⟩
theorem AG.put {l l' : List Slt} {w y : World} {g k : Nat} {v : Value} (h : AG l w g y) (he : (sltsC l).setIfInBounds k v = sltsC l') : AG l' w g (y.setCell ⟨g, k, none⟩ v) :=
  ⟨Below.setCell h.low h.ge v, h.ge, by have := h.at0.set k v; rw [he] at this; exact this⟩
theorem AG.fl {l : List Slt} {w y : World} {g : Nat} (h : AG l w g y) (hT : TabL w) (hw : Wslts l) (hl : l.length ≤ 1000) : FL l (some ⟨g, 0, none⟩) y := fl_blk h.at0 hw (hT.below h.low) hl
theorem build_armG {P : Program} {ops : Array Oper} {rest : List Oper} {o : Oper} {a : Act} {w : World} {Q : Exit → Act → World → Prop} (hg : Region.wanted o (yielded ops a.tmps) = true) (t e : TypeId) (len : Nat) (parts : Array (Nat × Operand)) (ho : o.op = .buildSlice t len parts)
    (z : Value) (n : Nat) (hu : P.underlying t = some (.slice e)) (hi : (P.info? e).map (fun i => (i.zero, i.size)) = some (some z, n)) (hs : len * n ≤ 2 ^ 24) (hp : len * n ≠ 0) (cells : Array Value)
    (hf : Instr.fill (fun i => some (i * n, n)) ((Array.range (len * n)).map (z.cells[· % z.cells.size]!)) (parts.map fun (i, x) => (i, a.eval x)).toList = some cells)
    (h : wpList P ops Q rest (a.put o.dst (.slice (some ⟨w.heap.size, 0, none⟩) len len)) (w.alloc (.cells cells e))) : wpList P ops Q (o :: rest) a w := by
  cases hie : P.info? e with
  | none => rw [hie] at hi; cases hi
  | some ie =>
    rw [hie] at hi
    simp only [Option.map_some, Option.some.injEq, Prod.mk.injEq] at hi
    obtain ⟨h1, h2⟩ := hi
    subst h2
    exact BigFrame.wpList_want hg fun K hK => wp_buildSlice t e len parts ho cells ie z hu hie h1 (by omega) hp hf (hK _ _ h)
theorem slt_store1 (C : Slt) (w : World) (o : Obj) (c : Array Value) (hc : c.size = 18) : (Instr.storeAt 29 (.pointer (some ⟨w.heap.size + 1, 0, none⟩)) (.agg (sltC C))).run Tryd.prog ((w.alloc o).alloc (.cells c 29)) = .ok () ((w.alloc o).alloc (.cells (sltC C) 29)) := by
  have h := slt_store C (w.alloc o) c hc
  rw [World.size_alloc] at h
  exact h
set_option maxHeartbeats 8000000 in
theorem alive16_any (w : World) (hT : TabL w) : Calls Tryd.prog 4 #[] w fun e w' => e = .returned (.bool true) ∧ BW w w' := by
  obtain ⟨l1, l2, l3, l4, l5, l6⟩ := life16
  obtain ⟨v1, v2, v3, v4⟩ := wsl_lit
  have HW1 := Lib.hid (fun g y (h : AG [sa1, sl1] w g y) => l1 ▸ waits_c (h.fl hT v1 (by decide)) 2 (by decide) 1 true)
  have HW2 := Lib.hid (fun g y (h : AG [sa2, sl1] w g y) => l2 ▸ waits_c (h.fl hT v2 (by decide)) 2 (by decide) 1 true)
  have HSO := Lib.hid (fun g y (h : AG [sa3, sl2, sl3] w g y) => l3 ▸ source_c (h.fl hT v3 (by decide)) 3 (by decide) 1 3)
  have HCL := Lib.hid (fun g y (h : AG [sa3, sl2, sl3] w g y) => l4 ▸ clash_c (h.fl hT v3 (by decide)) 3 0)
  have HRE := Lib.hid (fun g y (h : AG [sa3, sl2, sl3] w g y) => l5 ▸ reorder_c (h.fl hT v3 (by decide)) 3 1)
  have HPA := Lib.hid (fun g y (h : AG [sf1] w g y) => l6 ▸ passed_c (h.fl hT v4 (by decide)) 1 (by decide) 0 true)
  have HN := Lib.hid (AL.new sa1 sl1 w)
  clear l1 l2 l3 l4 l5 l6 v1 v2 v3 v4 hT
  go_enter Tryd.func4, Tryd.ntmps4
  go_upto_region 3 with (first
    | (with_reducible refine Hz.val_arm (o := ⟨some 6, .build _ _, _, _, _, _⟩) (v := .agg (sltC sa1)) (by kernel_rfl) (by kernel_rfl) ?_)
    | (with_reducible refine Hz.val_arm (o := ⟨some 7, .build _ _, _, _, _, _⟩) (v := .agg (sltC sl1)) (by kernel_rfl) (by kernel_rfl) ?_)
    | (with_reducible refine Hz.store_arm (o := ⟨none, .store _ _ _, _, _, _, _⟩) rfl 29 (.tmp 1) (.tmp 6) rfl rfl rfl (slt_store sa1 w _ rfl) ?_)
    | (with_reducible refine Hz.store_arm (o := ⟨none, .store _ _ _, _, _, _, _⟩) rfl 29 (.tmp 2) (.tmp 7) rfl rfl rfl (slt_store1 sl1 w _ _ rfl) ?_))
  obtain ⟨b1, hb1⟩ : ∃ b, w.heap.size = b := ⟨_, rfl⟩
  have HGE := Lib.hid (Nat.le_of_eq hb1)
  obtain ⟨b2, hb2⟩ : ∃ b, b1 + 1 = b := ⟨_, rfl⟩
  rw [hb1, hb2] at HN
  try rw [hb1]
  try rw [hb2]
  have HNE := Lib.hid (show b2 ≠ b1 by omega)
  clear hb1 hb2
  generalize (w.alloc _).alloc _ = w1 at *
  have HA1 : Hid (AL sa1 sl1 w b1 b2 w1) := HN.out
  clear HN
  go_upto_region 4 with (first
    | (with_reducible refine load_blk (o := ⟨some 8, .load _ (.tmp 1), _, _, _, _⟩) rfl 29 (.tmp 1) rfl HA1.out.s rfl Tryd.underlying29 rfl (by kernel_rfl) ?_)
    | (with_reducible refine load_blk (o := ⟨some 9, .load _ (.tmp 2), _, _, _, _⟩) rfl 29 (.tmp 2) rfl HA1.out.d rfl Tryd.underlying29 rfl (by kernel_rfl) ?_)
    | (refine build_lit rfl 22 29 2 _ rfl (.agg (sltC zSlt)) 18 Tryd.underlying22 (by kernel_rfl) (by decide) (by decide) (sltsC [sa1, sl1]) (by as_aux_lemma => kernel_rfl) rfl _ rfl ?_)
    | (go_at_call 5; have HG : Hid (AG [sa1, sl1] w _ _) := ⟨BW.new HA1.out.low _, Below.size HA1.out.low, Blk.new (sltsC [sa1, sl1]) 29 w1⟩; refine (HW1.out _ _ HG.out).mono ?_; rintro e w2 ⟨rfl, hb⟩; have HA2 := Lib.hid ((HA1.out.on (BW.new (Below.refl _ _) (.cells (sltsC [sa1, sl1]) 29))).on hb); clear hb HG HA1))
  have c5 : w2.cell? ⟨b1, 5, none⟩ = some (.bool false) := HA2.out.s.cell 5
  have f5 := HA2.out.s.free 5
  go_upto_region 5 with (fail)
  have HA3 : Hid (AL sa2 sl1 w b1 b2 (w2.setCell ⟨b1, 5, none⟩ (.bool true))) := HA2.out.put HNE.out HGE.out rfl
  clear c5 f5 HA2
  generalize w2.setCell ⟨b1, 5, none⟩ (.bool true) = w3 at *
  go_upto_region 6 with (first
    | (with_reducible refine load_blk (o := ⟨some 13, .load _ (.tmp 1), _, _, _, _⟩) rfl 29 (.tmp 1) rfl HA3.out.s rfl Tryd.underlying29 rfl (by kernel_rfl) ?_)
    | (with_reducible refine load_blk (o := ⟨some 14, .load _ (.tmp 2), _, _, _, _⟩) rfl 29 (.tmp 2) rfl HA3.out.d rfl Tryd.underlying29 rfl (by kernel_rfl) ?_)
    | (refine build_lit rfl 22 29 2 _ rfl (.agg (sltC zSlt)) 18 Tryd.underlying22 (by kernel_rfl) (by decide) (by decide) (sltsC [sa2, sl1]) (by as_aux_lemma => kernel_rfl) rfl _ rfl ?_)
    | (go_at_call 5; have HG : Hid (AG [sa2, sl1] w _ _) := ⟨BW.new HA3.out.low _, Below.size HA3.out.low, Blk.new (sltsC [sa2, sl1]) 29 w3⟩; refine (HW2.out _ _ HG.out).mono ?_; rintro e w4 ⟨rfl, hb⟩; have HA4 := Lib.hid ((HA3.out.on (BW.new (Below.refl _ _) (.cells (sltsC [sa2, sl1]) 29))).on hb); clear hb HG HA3))
  have c7 : w4.cell? ⟨b1, 7, none⟩ = some (.bool false) := HA4.out.s.cell 7
  have f7 := HA4.out.s.free 7
  go_upto_region 7 with (fail)
  have HA5 : Hid (AL sa3 sl1 w b1 b2 (w4.setCell ⟨b1, 7, none⟩ (.bool true))) := HA4.out.put HNE.out HGE.out rfl
  clear c7 f7 HA4
  generalize w4.setCell ⟨b1, 7, none⟩ (.bool true) = w5 at *
  go_upto_region 8 with (first
    | (with_reducible refine load_blk (o := ⟨some 18, .load _ (.tmp 1), _, _, _, _⟩) rfl 29 (.tmp 1) rfl HA5.out.s rfl Tryd.underlying29 rfl (by kernel_rfl) ?_)
    | (with_reducible refine load_blk (o := ⟨some 19, .load _ (.tmp 2), _, _, _, _⟩) rfl 29 (.tmp 2) rfl HA5.out.d rfl Tryd.underlying29 rfl (by kernel_rfl) ?_)
    | (with_reducible refine load_blk (o := ⟨some 20, .load _ (.tmp 2), _, _, _, _⟩) rfl 29 (.tmp 2) rfl HA5.out.d rfl Tryd.underlying29 rfl (by kernel_rfl) ?_)
    | (refine build_lit rfl 22 29 3 _ rfl (.agg (sltC zSlt)) 18 Tryd.underlying22 (by kernel_rfl) (by decide) (by decide) (sltsC [sa3, sl1, sl1]) (by as_aux_lemma => kernel_rfl) rfl _ rfl ?_))
  have HG0 : Hid (AG [sa3, sl1, sl1] w w5.heap.size (w5.alloc (.cells (sltsC [sa3, sl1, sl1]) 29))) := ⟨BW.new HA5.out.low _, Below.size HA5.out.low, Blk.new _ _ _⟩
  obtain ⟨g, hg⟩ : ∃ g, w5.heap.size = g := ⟨_, rfl⟩
  rw [hg] at HG0
  try rw [hg]
  clear hg HA5
  generalize w5.alloc _ = w6 at *
  have c1 : w6.cell? ⟨g, 27, none⟩ = some (.bool false) := HG0.out.at0.cell 27
  have f1 := HG0.out.at0.free 27
  go_upto_region 9 with (fail)
  have HG1 : Hid (AG [sa3, sl2, sl1] w g (w6.setCell ⟨g, 27, none⟩ (.bool true))) := HG0.out.put rfl
  clear c1 f1 HG0
  generalize w6.setCell _ _ = w7 at *
  have c1 : w7.cell? ⟨g, 45, none⟩ = some (.bool false) := HG1.out.at0.cell 45
  have f1 := HG1.out.at0.free 45
  go_upto_region 10 with (fail)
  have HG2 : Hid (AG [sa3, sl2, sl2] w g (w7.setCell ⟨g, 45, none⟩ (.bool true))) := HG1.out.put rfl
  clear c1 f1 HG1
  generalize w7.setCell _ _ = w8 at *
  have c1 : w8.cell? ⟨g, 49, none⟩ = some (.int .i64 0) := HG2.out.at0.cell 49
  have f1 := HG2.out.at0.free 49
  go_upto_region 11 with (fail)
  have HG3 : Hid (AG [sa3, sl2, sl3] w g (w8.setCell ⟨g, 49, none⟩ (.int .i64 7))) := HG2.out.put rfl
  clear c1 f1 HG2
  generalize w8.setCell _ _ = w9 at *
  go_wp2_with (first
    | (go_at_call 7; refine (HSO.out _ _ HG3.out).mono ?_; rintro e wa ⟨rfl, hb⟩; have HG4 := Lib.hid (HG3.out.on hb); clear hb)
    | (go_at_call 8; refine (HCL.out _ _ HG4.out).mono ?_; rintro e wb ⟨rfl, hb⟩; have HG5 := Lib.hid (HG4.out.on hb); clear hb)
    | (go_at_call 9; refine (HRE.out _ _ HG5.out).mono ?_; rintro e wc ⟨rfl, hb⟩; have HG6 := Lib.hid (HG5.out.on hb); have HF : Hid (AG [sf1] w wc.heap.size (wc.alloc (.cells (sltsC [sf1]) 29))) := ⟨BW.new HG6.out.low _, Below.size HG6.out.low, Blk.new _ _ _⟩; clear hb)
    | (with_reducible refine Hz.val_arm (o := ⟨some 54, .build _ _, _, _, _, _⟩) (v := .agg (sltC sf1)) (by kernel_rfl) (by kernel_rfl) ?_)
    | (refine build_armG (by kernel_rfl) 22 29 1 _ rfl (.agg (sltC zSlt)) 18 Tryd.underlying22 (by kernel_rfl) (by decide) (by decide) (sltsC [sf1]) (by as_aux_lemma => kernel_rfl) ?_)
    | (go_at_call 6; refine (HPA.out _ _ HF.out).mono ?_; rintro e wd ⟨rfl, hb⟩; have HF2 := Lib.hid (HF.out.on hb); clear hb))
  go_ret
  exact ⟨rfl, HF2.out.low⟩
end Go.Proofs.YtoaonoflekcccaaDoor
