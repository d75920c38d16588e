/- The program's Text. -/
import Derived.Test.YtdpbiboldmoadaaDoorKx
import Derived.Test.YtdpbiboldmoadaaDoorJn
set_option maxRecDepth 100000
namespace Go.Proofs.YtdpbiboldmoadaaDoor
open Go.RowKit

/-- The tables that package show reads. -/
structure Tab9 (w : World) : Prop where
  dec : Tab6 w
  names : TabN w
  shapes : TabS w
  pows : TabP w
theorem Tab9.below {W w : World} (h : Tab9 W) (hb : Below W.heap.size W w) : Tab9 w := ⟨h.dec.below hb, h.names.below hb, h.shapes.below hb, h.pows.below hb⟩
theorem part_len (i : Ins) (c : UInt8) : (partT i c).length ≤ 22 := by
  have hd : ∀ n : Int, (digI n).length ≤ 21 := by
    intro n
    unfold digI
    split
    · have := digF_len 20 n.natAbs; unfold digU; simp; omega
    · have := digF_len 20 n.natAbs; unfold digU; omega
  have hr : ∀ r : Int, (regT r).length ≤ 22 := fun r => by have := hd r; unfold regT; simp; omega
  have hs : ∀ n : Int, (setT n).length ≤ 22 := fun n => by
    unfold setT
    by_cases h1 : n / 8 % 2 = 1 <;> by_cases h2 : n / 4 % 2 = 1 <;> by_cases h3 : n / 2 % 2 = 1 <;> by_cases h4 : n % 2 = 1 <;> simp [h1, h2, h3, h4]
  unfold partT
  (repeat' split)
  · exact hr _
  · exact hr _
  · exact hr _
  · exact Nat.le_trans (hd _) (by decide)
  · exact hs _
  · exact hs _
  · simp
theorem parts_len (i : Ins) (l : List UInt8) : (l.flatMap (partT i)).length ≤ 22 * l.length := by
  induction l with
  | nil => simp
  | cons c l ih =>
    rw [List.flatMap_cons, List.length_append, List.length_cons]
    have := part_len i c
    omega
theorem shp_len (op : Int) : (shpT op).length ≤ 11 := by
  have hall : ∀ k : Fin 13, (shpL.getD k.val []).length ≤ 11 := by decide
  have hs := srt_spec op
  unfold shpT
  split
  · decide
  · split
    · decide
    · exact hall ⟨(srt op).toNat, by omega⟩
theorem ann_len (aq rl : Bool) : (annT aq rl).length ≤ 5 := by cases aq <;> cases rl <;> decide
theorem parts_snoc (i : Ins) {l : List UInt8} {k : Nat} {c : UInt8} (h : k < l.length) (hc : l[k] = c) : (l.take (k + 1)).flatMap (partT i) = (l.take k).flatMap (partT i) ++ partT i c := by
  rw [List.take_succ_eq_append_getElem h, hc, List.flatMap_append]
  simp
theorem text_no (i : Ins) (ho : I64 i.op) (hr : rgtB i = false) (w : World) (T : Tab9 w) :
    Calls Tryd.prog 8 #[insV i] w fun e w' => e = .returned (.tuple #[tx [], .int .i64 1]) ∧ Below w.heap.size w w' := by
  have HJ0 := jn_new i w
  have KR := fun g x (h : Jn w i g x) => (right_c i ho x (T.dec.below h.1)).mono fun e w' hh => (⟨hh.1, h.on hh.2⟩ : _ ∧ Jn w i g w')
  rw [hr] at KR
  clear hr T
  obtain ⟨op, rd, rs1, rs2, imm, aq, rl, pred, succ⟩ := i
  unfold insV insCells at *
  simp only at HJ0 KR ⊢
  go_enter Tryd.func8, Tryd.ntmps8
  go_upto_region 1 with (fail)
  generalize w.alloc (.cells _ 23) = w1 at *
  obtain ⟨g, hg⟩ : ∃ g, w.heap.size = g := ⟨_, rfl⟩
  have HJ : Jn w ⟨op, rd, rs1, rs2, imm, aq, rl, pred, succ⟩ g w1 := by rw [← hg]; exact HJ0
  rw [hg]
  clear hg HJ0
  obtain ⟨c0, c1, c2, c3, c4, c5, c6, c7, c8⟩ := HJ.cells
  simp only at c0 c1 c2 c3 c4 c5 c6 c7 c8
  go_wp2_with (first
    | (go_at_call 18; refine (KR g _ HJ).mono ?_; rintro e w2 ⟨rfl, HJ2⟩))
  go_ret2
  exact ⟨rfl, HJ2.1⟩
set_option maxHeartbeats 2000000 in
theorem text_ok (i : Ins) (h : Rgt i) (w : World) (T : Tab9 w) :
    Calls Tryd.prog 8 #[insV i] w fun e w' => e = .returned (.tuple #[tx (textT i), .int .i64 0]) ∧ Below w.heap.size w w' := by
  have ho : I64 i.op := ⟨by have := h.op; omega, by have := h.op; omega⟩
  have HJ0 := jn_new i w
  have KR := fun g x (hj : Jn w i g x) => (right_c i ho x (T.dec.below hj.1)).mono fun e w' hh => (⟨hh.1, hj.on hh.2⟩ : _ ∧ Jn w i g w')
  have KN := fun g x (hj : Jn w i g x) => name_c i.op ho x (T.names.below hj.1)
  have KA := fun x => annot_c i.aq i.rl x
  have KH := fun g x (hj : Jn w i g x) => shape_c i.op ho x (T.dec.below hj.1).lasts (T.shapes.below hj.1)
  have KP := fun c hc x (hb : Below w.heap.size w x) => part_ch i h.part c hc x (T.pows.below hb)
  have hso := (shp_ok i.op).2.2
  have hcs : ∀ c ∈ shpT i.op, c ∈ sixL ∨ isMk c = true := fun c hc => by
    cases hm : isMk c with
    | true => exact .inr rfl
    | false => exact .inl (hso c hc (by unfold noMk; rw [hm]; rfl))
  have HT := Lib.hid (text_parts h.op)
  have hn9 := nmO_len i.op
  have hn5 := ann_len i.aq i.rl
  have hn11 := shp_len i.op
  have HPL := Lib.hid (parts_len i)
  have HPC := Lib.hid (part_len i)
  have HSN := Lib.hid (fun (l : List UInt8) (k : Nat) (c : UInt8) (hk : k < l.length) (hc : l[k] = c) => parts_snoc i hk hc)
  rw [(rgt_iff i).2 h] at KR
  have ha : ∀ w2 : World, (Op.stringOp .add (bs (nmO i.op)) (bs (annT i.aq i.rl))).run Tryd.prog w2 = .ok (.string (bs (nmO i.op ++ annT i.aq i.rl))) w2 := fun w2 => run_string_add_lists w2 _ _ (by omega) (by omega)
  have hxl : (nmO i.op ++ annT i.aq i.rl).length ≤ 14 := by rw [List.length_append]; omega
  generalize textT i = TT at *
  obtain ⟨F, hF⟩ : ∃ F, partT i = F := ⟨_, rfl⟩
  rw [hF] at HT HPL HPC HSN
  simp only [hF] at KP
  unfold tx at *
  generalize nmO i.op ++ annT i.aq i.rl = X0 at *
  generalize nmO i.op = X1 at *
  generalize annT i.aq i.rl = X2 at *
  generalize shpT i.op = S at *
  have HF := Lib.hid hF
  clear hF T hn9 hn5 hso h ho
  obtain ⟨op, rd, rs1, rs2, imm, aq, rl, pred, succ⟩ := i
  unfold insV insCells at *
  simp only at HJ0 KR KN KA KH KP ⊢
  go_enter Tryd.func8, Tryd.ntmps8
  go_upto_region 1 with (fail)
  generalize w.alloc (.cells _ 23) = w1 at *
  obtain ⟨g, hg⟩ : ∃ g, w.heap.size = g := ⟨_, rfl⟩
  have HJ : Jn w ⟨op, rd, rs1, rs2, imm, aq, rl, pred, succ⟩ g w1 := by rw [← hg]; exact HJ0
  rw [hg]
  clear hg HJ0
  obtain ⟨c0, c1, c2, c3, c4, c5, c6, c7, c8⟩ := HJ.cells
  simp only at c0 c1 c2 c3 c4 c5 c6 c7 c8
  go_upto_region 3 with (first
    | (go_at_call 18; refine (KR g _ HJ).mono ?_; rintro e w2 ⟨rfl, HJ2⟩))
  clear c0 c1 c2 c3 c4 c5 c6 c7 c8 HJ KR
  obtain ⟨c0, c1, c2, c3, c4, c5, c6, c7, c8⟩ := HJ2.cells
  simp only at c0 c1 c2 c3 c4 c5 c6 c7 c8
  go_quiet (first
    | (go_at_call 19; refine Calls.quiet_of_same ((KN g _ (HJ2.on (drewN_below _))).mono (fun _ _ ⟨he, hw⟩ => ⟨he, hw.symm⟩)))
    | (go_at_call 20; refine Calls.quiet_of_same ((KA _).mono (fun _ _ ⟨he, hw⟩ => ⟨he, hw.symm⟩))))
  have HJ3 := HJ2.on (drewN_below nq)
  clear c0 c1 c2 c3 c4 c5 c6 c7 c8 HJ2 KN KA
  generalize w2.drewN nq = w3 at *
  obtain ⟨c0, c1, c2, c3, c4, c5, c6, c7, c8⟩ := HJ3.cells
  simp only at c0 c1 c2 c3 c4 c5 c6 c7 c8
  obtain ⟨cap, w4, hconv, hB4, hg4, hcells⟩ := conv_bytes S w3
  have HJ4 := HJ3.on hB4
  have HC := Lib.hid hcells
  clear hcells
  go_wp2_with (first
    | (go_at_call 21; refine (KH g _ HJ3).mono ?_; rintro e w5 ⟨rfl, rfl⟩))
  obtain ⟨gb, hgb⟩ : ∃ gb, w3.heap.size = gb := ⟨_, rfl⟩
  rw [hgb] at HC hg4 ⊢
  clear hgb hconv hB4 KH c0 c1 c2 c3 c4 c5 c6 c7 c8 HJ3
  go_loopw [4, 24] (fun s i wr => ∃ k : Nat, i = .int .i64 k ∧ s = .string (bs (X0 ++ (S.take k).flatMap F)) ∧ k ≤ S.length ∧ Hid (Below w4.heap.size w4 wr) ∧ Hid (BW w wr)) (fun _ i _ => S.length - (intOf i).toNat)
  case atStart => exact ⟨0, rfl, by simp, Nat.zero_le _, Below.refl _ _, HJ4.1⟩
  case round =>
    obtain ⟨k, rfl, rfl, hk, HBR, HBW⟩ := hrel
    have HJ5 := HJ4.on HBR.out
    by_cases hlt : k < S.length
    · have hltI : (k : Int) < S.length := by omega
      have hc := HC.out k hlt
      rw [← HBR.out.cell (p := ⟨gb, k, none⟩) hg4] at hc
      obtain ⟨c, hcc⟩ : ∃ c, S[k] = c := ⟨_, rfl⟩
      rw [hcc] at hc
      have hmem : c ∈ S := by rw [← hcc]; exact List.getElem_mem hlt
      have hP := KP c (hcs c hmem) wr HBW.out
      have hsn := HSN.out S k c hlt hcc
      have hpl := HPL.out (S.take k)
      rw [List.length_take] at hpl
      have hpc := HPC.out c
      have hcat : ∀ w2 : World, (Op.stringOp .add (bs (X0 ++ (S.take k).flatMap F)) (bs (F c))).run Tryd.prog w2 = .ok (.string (bs (X0 ++ (S.take (k + 1)).flatMap F))) w2 := fun w2 => by
        rw [hsn, ← List.append_assoc]
        exact run_string_add_lists w2 _ _ (by rw [List.length_append]; omega) (by omega)
      have HX : Hid (BW w wr) := HBW
      obtain ⟨c0, c1, c2, c3, c4, c5, c6, c7, c8⟩ := HJ5.cells
      simp only at c0 c1 c2 c3 c4 c5 c6 c7 c8
      clear hsn hpl hpc hmem hcc KP HC
      obtain ⟨x2, hx2⟩ : ∃ x2, bs (X0 ++ (S.take (k + 1)).flatMap F) = x2 := ⟨_, rfl⟩
      rw [hx2] at hcat
      have HX2 := Lib.hid hx2
      clear hx2
      generalize bs (X0 ++ (S.take k).flatMap F) = x1 at *
      generalize bs (F c) = x3 at *
      generalize (c.toNat : Int) = C at *
      go_wp2_with (first
        | (go_at_call 22; refine hP.mono ?_; rintro e w6 ⟨rfl, hb⟩; have HB6 := Lib.hid hb; clear hb))
      exact ⟨⟨k + 1, by go_num, by rw [HX2.out], by omega, Below.trans HBR.out (HB6.out.mono (Below.size HBR.out)), HBW.out.on HB6.out⟩, by simp [intOf]; omega⟩
    · obtain rfl : k = S.length := by omega
      have HV : Hid (TT = X0 ++ (S.take S.length).flatMap F) := by show TT = _; rw [List.take_length]; exact HT.out
      generalize X0 ++ (S.take S.length).flatMap F = y at *
      clear KP HC
      go_wp2
      go_ret2
      exact ⟨by rw [HV.out]; rfl, HBW.out⟩
end Go.Proofs.YtdpbiboldmoadaaDoor
