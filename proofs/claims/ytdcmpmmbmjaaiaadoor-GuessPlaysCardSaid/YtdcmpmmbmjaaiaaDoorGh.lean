/- The document's Counter and Next, of all that went. -/
import Derived.Test.YtdcmpmmbmjaaiaaDoorGa
import Derived.Test.YtdcmpmmbmjaaiaaDoorHz
import Derived.Test.YtdcmpmmbmjaaiaaDoorOg
import Derived.Test.YtdcmpmmbmjaaiaaDoorOp5
import Derived.Test.YtdcmpmmbmjaaiaaDoorJn
import Derived.LoopTactic
import Derived.Deep.DeepCutAuto
import Derived.Deep.LoopGhost
set_option maxRecDepth 100000
set_option linter.unusedVariables false
namespace Go.Proofs.YtdcmpmmbmjaaiaaDoor
open Go.RowKit

/-! ### Plain -/
theorem trG_c (s : Gst) (x : Wn) (n : Nat) : (trG s x).c n = if numG x.pc = n ∧ srt x.i.op = 3 ∧ x.i.imm ≠ 4 then cntK (decide (x.next = asdG x.i x.pc)) (s.c n) else s.c n := by
  unfold trG
  by_cases h4 : x.i.op = 4
  · have := srt_spec x.i.op
    rw [if_pos h4, if_neg (by omega)]
    rfl
  rw [if_neg h4]
  by_cases h : srt x.i.op = 3 ∧ x.i.imm ≠ 4
  · rw [if_pos h]
    show updK _ _ _ n = _
    by_cases hn : numG x.pc = n
    · rw [if_pos ⟨hn, h⟩, ← hn, updK_same]
    · rw [if_neg (fun a => hn a.1), updK_other _ _ _ (fun e => hn e.symm)]
  · rw [if_neg h, if_neg (fun a => h a.2)]
theorem trG_t (s : Gst) (x : Wn) (n : Nat) : ((trG s x).b n = if x.i.op = 4 ∧ numG x.pc = n then true else s.b n) ∧ ((trG s x).t n = if x.i.op = 4 ∧ numG x.pc = n then x.next else s.t n) := by
  unfold trG
  by_cases h4 : x.i.op = 4
  · rw [if_pos h4]
    by_cases hn : numG x.pc = n
    · rw [if_pos ⟨h4, hn⟩, if_pos ⟨h4, hn⟩]
      subst hn
      exact ⟨updK_same _ _ _, updK_same _ _ _⟩
    · rw [if_neg (fun a => hn a.2), if_neg (fun a => hn a.2)]
      exact ⟨updK_other _ _ _ (fun e => hn e.symm), updK_other _ _ _ (fun e => hn e.symm)⟩
  · rw [if_neg h4]
    have hno : ¬ (x.i.op = 4 ∧ numG x.pc = n) := fun a => h4 a.1
    rw [if_neg hno, if_neg hno]
    by_cases h : srt x.i.op = 3 ∧ x.i.imm ≠ 4
    · rw [if_pos h]; exact ⟨rfl, rfl⟩
    · rw [if_neg h]; exact ⟨rfl, rfl⟩
theorem take_next {X : Type} (l : List X) {k : Nat} (h : k < l.length) : l.take (k + 1) = l.take k ++ [l[k]] := by rw [List.take_succ_eq_append_getElem h]
theorem allG_next (l : List Wn) {k : Nat} (h : k < l.length) : allG (l.take (k + 1)) = trG (allG (l.take k)) l[k] := by rw [take_next l h, allG_snoc]
theorem last_hit (l : List Wn) (q n : Nat) (h : n < l.length) (h1 : l[n].i.op = 4 ∧ numG l[n].pc = q) (h2 : ∀ j (hj : j < l.length), n < j → ¬ (l[j].i.op = 4 ∧ numG l[j].pc = q)) : (allG l).b q = true ∧ (allG l).t q = l[n].next := by
  have key : ∀ m, n + 1 + m ≤ l.length → (allG (l.take (n + 1 + m))).b q = true ∧ (allG (l.take (n + 1 + m))).t q = l[n].next := by
    intro m
    induction m with
    | zero =>
      intro _
      rw [Nat.add_zero, allG_next l h]
      have := trG_t (allG (l.take n)) l[n] q
      rw [if_pos h1, if_pos h1] at this
      exact this
    | succ m ih =>
      intro hm
      have hj : n + 1 + m < l.length := by omega
      rw [show n + 1 + (m + 1) = n + 1 + m + 1 by omega, allG_next l hj]
      have := trG_t (allG (l.take (n + 1 + m))) l[n + 1 + m] q
      have hn := h2 (n + 1 + m) hj (by omega)
      rw [if_neg hn, if_neg hn] at this
      rw [this.1, this.2]
      exact ih (by omega)
  have := key (l.length - (n + 1)) (by omega)
  rw [show n + 1 + (l.length - (n + 1)) = l.length by omega, List.take_length] at this
  exact this
theorem none_hit (l : List Wn) (q : Nat) (h2 : ∀ j (hj : j < l.length), ¬ (l[j].i.op = 4 ∧ numG l[j].pc = q)) : (allG l).b q = false := by
  have key : ∀ m, m ≤ l.length → (allG (l.take m)).b q = false := by
    intro m
    induction m with
    | zero => intro _; rfl
    | succ m ih =>
      intro hm
      rw [allG_next l (by omega)]
      have := (trG_t (allG (l.take m)) l[m] q).1
      rw [if_neg (h2 m (by omega))] at this
      rw [this]
      exact ih (by omega)
  have := key l.length (Nat.le_refl _)
  rw [List.take_length] at this
  exact this
theorem num_iff (a b : Int) : (numG a = numG b) ↔ a / 4 % 16 = b / 4 % 16 := by
  have h1 := numG_int a
  have h2 := numG_int b
  omega

/-! ### How a list lies -/
def wnCells (x : Wn) : Array Value := #[.int .i64 x.i.op, .int .i64 x.i.rd, .int .i64 x.i.rs1, .int .i64 x.i.rs2, .int .i64 x.i.imm, .bool x.i.aq, .bool x.i.rl, .int .i64 x.i.pred, .int .i64 x.i.succ, .int .u64 x.pc, .int .u64 x.next]
def cellsWn (l : List Wn) : List Value := l.flatMap fun x => (wnCells x).toList
structure Wwn (x : Wn) : Prop where
  op : I64 x.i.op
  pc : 0 ≤ x.pc ∧ x.pc ≤ 18446744073709551615
def Wwns (l : List Wn) : Prop := ∀ k ∈ l, Wwn k
theorem rd_wn {w : World} {B : Nat} {A : Option Addr} {l : List Wn} (h : Rd w B A (cellsWn l)) {k : Nat} (hk : k < l.length) : ∃ b off, A = some ⟨b, off, none⟩ ∧ b < B ∧ ∀ j v, (wnCells l[k]).toList[j]? = some v → w.cell? ⟨b, off + k * 11 + j, none⟩ = some v := by
  have hz : ∀ x : Wn, (wnCells x).toList.length = 11 := fun _ => rfl
  rcases h with h0 | ⟨b, off, rfl, hb, hc⟩
  · have := flat_len (fun x : Wn => (wnCells x).toList) 11 hz l
    rw [show l.flatMap (fun x : Wn => (wnCells x).toList) = [] from h0] at this
    simp at this
    omega
  · refine ⟨b, off, rfl, hb, fun j v hv => ?_⟩
    have hj : j < 11 := by have := (List.getElem?_eq_some_iff.1 hv).1; rwa [hz] at this
    have e := flat_at (fun x : Wn => (wnCells x).toList) 11 hz l k j hj
    rw [List.getElem?_eq_getElem hk] at e
    have := hc (k * 11 + j) v (e.trans hv)
    rw [← Nat.add_assoc] at this
    exact this
theorem rd_take {w : World} {B : Nat} {A : Option Addr} {l : List Wn} (h : Rd w B A (cellsWn l)) (m : Nat) : Rd w B A (cellsWn (l.take m)) := by
  rcases h with h0 | ⟨b, off, rfl, hb, hc⟩
  · left
    have hz : ∀ x : Wn, (wnCells x).toList.length = 11 := fun _ => rfl
    have := flat_len (fun x : Wn => (wnCells x).toList) 11 hz l
    rw [show l.flatMap (fun x : Wn => (wnCells x).toList) = [] from h0] at this
    have hl : l = [] := List.eq_nil_of_length_eq_zero (by simp at this; omega)
    rw [hl, List.take_nil]
    rfl
  · refine .inr ⟨b, off, rfl, hb, fun i v hv => hc i v ?_⟩
    have e : cellsWn l = cellsWn (l.take m) ++ cellsWn (l.drop m) := by
      unfold cellsWn
      rw [← List.flatMap_append, List.take_append_drop]
    rw [e, List.getElem?_append_left (List.getElem?_eq_some_iff.1 hv).1]
    exact hv
set_option maxHeartbeats 4000000 in
theorem rcounter_c (l : List Wn) (A : Option Addr) (cap : Nat) (hl : l.length ≤ 9223372036854775807) (hw : Wwns l) (pc : Int) (h0 : 0 ≤ pc) (h1 : pc ≤ 18446744073709551615) (w : World) (hr : Rd w w.heap.size A (cellsWn l)) :
    Calls Tryd.prog 11 #[.slice A l.length cap, .int .u64 pc] w fun e w' => e = .returned (.int .i64 ((allG l).c (numG pc))) ∧ BW w w' := by
  have HR := Lib.hid hr
  have HW := Lib.hid hw
  have HEND : Hid ((allG (l.take l.length)).c (numG pc) = (allG l).c (numG pc)) := by show _ = _; rw [List.take_length]
  clear hr hw
  go_enter Tryd.func11, Tryd.ntmps11
  go_wp2
  go_loopw [5, 6] (fun c i wx => ∃ k : Nat, k ≤ l.length ∧ i = .int .i64 (k : Int) ∧ c = .int .i64 ((allG (l.take k)).c (numG pc)) ∧ Hid (BW w wx)) (fun _ i _ => l.length - (intOf i).toNat)
  case atStart => exact ⟨0, by omega, rfl, rfl, Below.refl _ _⟩
  case round =>
    obtain ⟨k, hk, rfl, rfl, HB⟩ := hrel
    by_cases hlt : k < l.length
    · have hltI : (k : Int) < (l.length : Int) := by omega
      obtain ⟨b, off, rfl, hb, hcs⟩ := rd_wn HR.out hlt
      have HCS := Lib.hid (fun j v hv => (Below.cell HB.out (p := ⟨b, off + k * 11 + j, none⟩) hb).trans (hcs j v hv))
      have hx := HW.out l[k] (List.getElem_mem hlt)
      have HN := Lib.hid (trG_c (allG (l.take k)) l[k] (numG pc))
      have HE := Lib.hid (allG_next l hlt)
      rw [← HE.out] at HN
      have HNI := Lib.hid (num_iff l[k].pc pc)
      have HCK := Lib.hid ((allG_ok (l.take k)).c (numG pc))
      clear HE hcs
      obtain ⟨c2, hc2⟩ : ∃ c2, (allG (l.take (k + 1))).c (numG pc) = c2 := ⟨_, rfl⟩
      rw [hc2] at HN
      have HX2 := Lib.hid hc2
      clear hc2
      generalize (allG (l.take k)).c (numG pc) = c at *
      generalize l[k] = x at *
      obtain ⟨ho, hx0, hx1⟩ := hx
      have HS := Lib.hid (fun y => rsort_any x.i.op ho.1 ho.2 y)
      obtain ⟨⟨op, rd, rs1, rs2, imm, aq, rl, pred, succ⟩, xp, nx⟩ := x
      unfold wnCells at HCS
      simp only [asdG] at HCS HN HNI HS hx0 hx1
      clear ho
      have HB1 := Lib.hid (BW.new HB.out (.cells #[.int .i64 op, .int .i64 rd, .int .i64 rs1, .int .i64 rs2, .int .i64 imm, .bool aq, .bool rl, .int .i64 pred, .int .i64 succ, .int .u64 xp, .int .u64 nx] 31))
      have HK1 := Lib.hid (Blk.new #[.int .i64 op, .int .i64 rd, .int .i64 rs1, .int .i64 rs2, .int .i64 imm, .bool aq, .bool rl, .int .i64 pred, .int .i64 succ, .int .u64 xp, .int .u64 nx] 31 wr)
      have c9 : World.cell? _ ⟨wr.heap.size, 9, none⟩ = some (.int .u64 xp) := HK1.out.cell 9
      have c0 : World.cell? _ ⟨wr.heap.size, 0, none⟩ = some (.int .i64 op) := HK1.out.cell 0
      generalize srt op = sr at *
      by_cases hn : xp / 4 % 16 = pc / 4 % 16
      · have hnn := HNI.out.2 hn
        by_cases hs : sr = 3
        · subst hs
          by_cases hi : imm = 4
          · obtain rfl : c2 = c := by rw [HN.out, if_neg (fun a => a.2.2 hi)]
            subst hi
            clear HN HNI hnn
            go_wp2_with (first
              | (with_reducible refine Hz.val_arm (o := ⟨some 17, .load _ _, _, _, _, _⟩) (by kernel_rfl) (Hz.ex_load_cells [.int .i64 op, .int .i64 rd, .int .i64 rs1, .int .i64 rs2, .int .i64 4, .bool aq, .bool rl, .int .i64 pred, .int .i64 succ, .int .u64 xp, .int .u64 nx] rfl rfl HCS.out Tryd.underlying31 rfl (by kernel_rfl)) ?_)
              | (go_at_call 15; refine (HS.out _).mono ?_; rintro e w2 ⟨rfl, hb2⟩; have HB2 := Lib.hid (BW.on HB1.out hb2); have HK2 := Lib.hid (HK1.out.on hb2); have d4 : w2.cell? ⟨wr.heap.size, 4, none⟩ = some (.int .i64 4) := HK2.out.cell 4; have d9 : w2.cell? ⟨wr.heap.size, 9, none⟩ = some (.int .u64 xp) := HK2.out.cell 9; have d10 : w2.cell? ⟨wr.heap.size, 10, none⟩ = some (.int .u64 nx) := HK2.out.cell 10; clear hb2))
            go_roundw
            case rel => exact ⟨k + 1, by omega, by first | rfl | go_num, by rw [HX2.out], HB2⟩
            case measure => simp [intOf]; omega
          · have ei : (imm == 4) = false := by simpa using hi
            by_cases hq : nx = IntKind.u64.wrap (xp + IntKind.u64.wrap imm)
            · have HC2 : Hid (c2 = cntK true c) := by show _ = _; rw [HN.out, if_pos ⟨hnn, rfl, hi⟩]; congr 1; exact decide_eq_true hq
              have eq : (nx == IntKind.u64.wrap (xp + IntKind.u64.wrap imm)) = true := by simpa using hq
              clear HN HNI hnn hq
              obtain ⟨hc0, hc3⟩ := HCK.out
              by_cases hlt3 : c < 3
              · obtain rfl : c2 = c + 1 := by rw [HC2.out]; unfold cntK; simp [hlt3]
                clear HC2
                go_wp2_with (first
                  | (with_reducible refine Hz.val_arm (o := ⟨some 17, .load _ _, _, _, _, _⟩) (by kernel_rfl) (Hz.ex_load_cells [.int .i64 op, .int .i64 rd, .int .i64 rs1, .int .i64 rs2, .int .i64 imm, .bool aq, .bool rl, .int .i64 pred, .int .i64 succ, .int .u64 xp, .int .u64 nx] rfl rfl HCS.out Tryd.underlying31 rfl (by kernel_rfl)) ?_)
                  | (go_at_call 15; refine (HS.out _).mono ?_; rintro e w2 ⟨rfl, hb2⟩; have HB2 := Lib.hid (BW.on HB1.out hb2); have HK2 := Lib.hid (HK1.out.on hb2); have d4 : w2.cell? ⟨wr.heap.size, 4, none⟩ = some (.int .i64 imm) := HK2.out.cell 4; have d9 : w2.cell? ⟨wr.heap.size, 9, none⟩ = some (.int .u64 xp) := HK2.out.cell 9; have d10 : w2.cell? ⟨wr.heap.size, 10, none⟩ = some (.int .u64 nx) := HK2.out.cell 10; clear hb2))
                go_roundw
                case rel => exact ⟨k + 1, by omega, by first | rfl | go_num, by rw [HX2.out], HB2⟩
                case measure => simp [intOf]; omega
              · obtain rfl : c2 = c := by rw [HC2.out]; unfold cntK; simp [hlt3]
                clear HC2
                go_wp2_with (first
                  | (with_reducible refine Hz.val_arm (o := ⟨some 17, .load _ _, _, _, _, _⟩) (by kernel_rfl) (Hz.ex_load_cells [.int .i64 op, .int .i64 rd, .int .i64 rs1, .int .i64 rs2, .int .i64 imm, .bool aq, .bool rl, .int .i64 pred, .int .i64 succ, .int .u64 xp, .int .u64 nx] rfl rfl HCS.out Tryd.underlying31 rfl (by kernel_rfl)) ?_)
                  | (go_at_call 15; refine (HS.out _).mono ?_; rintro e w2 ⟨rfl, hb2⟩; have HB2 := Lib.hid (BW.on HB1.out hb2); have HK2 := Lib.hid (HK1.out.on hb2); have d4 : w2.cell? ⟨wr.heap.size, 4, none⟩ = some (.int .i64 imm) := HK2.out.cell 4; have d9 : w2.cell? ⟨wr.heap.size, 9, none⟩ = some (.int .u64 xp) := HK2.out.cell 9; have d10 : w2.cell? ⟨wr.heap.size, 10, none⟩ = some (.int .u64 nx) := HK2.out.cell 10; clear hb2))
                go_roundw
                case rel => exact ⟨k + 1, by omega, by first | rfl | go_num, by rw [HX2.out], HB2⟩
                case measure => simp [intOf]; omega
            · have HC2 : Hid (c2 = cntK false c) := by show _ = _; rw [HN.out, if_pos ⟨hnn, rfl, hi⟩]; congr 1; exact decide_eq_false hq
              have eq : (nx == IntKind.u64.wrap (xp + IntKind.u64.wrap imm)) = false := by simpa using hq
              clear HN HNI hnn hq
              obtain ⟨hc0, hc3⟩ := HCK.out
              by_cases hlt3 : 0 < c
              · obtain rfl : c2 = c - 1 := by rw [HC2.out]; unfold cntK; simp [hlt3]
                clear HC2
                go_wp2_with (first
                  | (with_reducible refine Hz.val_arm (o := ⟨some 17, .load _ _, _, _, _, _⟩) (by kernel_rfl) (Hz.ex_load_cells [.int .i64 op, .int .i64 rd, .int .i64 rs1, .int .i64 rs2, .int .i64 imm, .bool aq, .bool rl, .int .i64 pred, .int .i64 succ, .int .u64 xp, .int .u64 nx] rfl rfl HCS.out Tryd.underlying31 rfl (by kernel_rfl)) ?_)
                  | (go_at_call 15; refine (HS.out _).mono ?_; rintro e w2 ⟨rfl, hb2⟩; have HB2 := Lib.hid (BW.on HB1.out hb2); have HK2 := Lib.hid (HK1.out.on hb2); have d4 : w2.cell? ⟨wr.heap.size, 4, none⟩ = some (.int .i64 imm) := HK2.out.cell 4; have d9 : w2.cell? ⟨wr.heap.size, 9, none⟩ = some (.int .u64 xp) := HK2.out.cell 9; have d10 : w2.cell? ⟨wr.heap.size, 10, none⟩ = some (.int .u64 nx) := HK2.out.cell 10; clear hb2))
                go_roundw
                case rel => exact ⟨k + 1, by omega, by first | rfl | go_num, by rw [HX2.out], HB2⟩
                case measure => simp [intOf]; omega
              · obtain rfl : c2 = c := by rw [HC2.out]; unfold cntK; simp [hlt3]
                clear HC2
                go_wp2_with (first
                  | (with_reducible refine Hz.val_arm (o := ⟨some 17, .load _ _, _, _, _, _⟩) (by kernel_rfl) (Hz.ex_load_cells [.int .i64 op, .int .i64 rd, .int .i64 rs1, .int .i64 rs2, .int .i64 imm, .bool aq, .bool rl, .int .i64 pred, .int .i64 succ, .int .u64 xp, .int .u64 nx] rfl rfl HCS.out Tryd.underlying31 rfl (by kernel_rfl)) ?_)
                  | (go_at_call 15; refine (HS.out _).mono ?_; rintro e w2 ⟨rfl, hb2⟩; have HB2 := Lib.hid (BW.on HB1.out hb2); have HK2 := Lib.hid (HK1.out.on hb2); have d4 : w2.cell? ⟨wr.heap.size, 4, none⟩ = some (.int .i64 imm) := HK2.out.cell 4; have d9 : w2.cell? ⟨wr.heap.size, 9, none⟩ = some (.int .u64 xp) := HK2.out.cell 9; have d10 : w2.cell? ⟨wr.heap.size, 10, none⟩ = some (.int .u64 nx) := HK2.out.cell 10; clear hb2))
                go_roundw
                case rel => exact ⟨k + 1, by omega, by first | rfl | go_num, by rw [HX2.out], HB2⟩
                case measure => simp [intOf]; omega
        · obtain rfl : c2 = c := by rw [HN.out, if_neg (fun a => hs a.2.1)]
          have es : (sr != 3) = true := by simpa using hs
          clear HN HNI hnn
          go_wp2_with (first
            | (with_reducible refine Hz.val_arm (o := ⟨some 17, .load _ _, _, _, _, _⟩) (by kernel_rfl) (Hz.ex_load_cells [.int .i64 op, .int .i64 rd, .int .i64 rs1, .int .i64 rs2, .int .i64 imm, .bool aq, .bool rl, .int .i64 pred, .int .i64 succ, .int .u64 xp, .int .u64 nx] rfl rfl HCS.out Tryd.underlying31 rfl (by kernel_rfl)) ?_)
            | (go_at_call 15; refine (HS.out _).mono ?_; rintro e w2 ⟨rfl, hb2⟩; have HB2 := Lib.hid (BW.on HB1.out hb2); have HK2 := Lib.hid (HK1.out.on hb2); have d4 : w2.cell? ⟨wr.heap.size, 4, none⟩ = some (.int .i64 imm) := HK2.out.cell 4; have d9 : w2.cell? ⟨wr.heap.size, 9, none⟩ = some (.int .u64 xp) := HK2.out.cell 9; have d10 : w2.cell? ⟨wr.heap.size, 10, none⟩ = some (.int .u64 nx) := HK2.out.cell 10; clear hb2))
          go_roundw
          case rel => exact ⟨k + 1, by omega, by first | rfl | go_num, by rw [HX2.out], HB2⟩
          case measure => simp [intOf]; omega
      · have hnn := fun a => hn (HNI.out.1 a)
        obtain rfl : c2 = c := by rw [HN.out, if_neg (fun a => hnn a.1)]
        have en : (xp / 4 % 16 != pc / 4 % 16) = true := by simpa using hn
        clear HN HNI hnn
        go_wp2_with (first
          | (with_reducible refine Hz.val_arm (o := ⟨some 17, .load _ _, _, _, _, _⟩) (by kernel_rfl) (Hz.ex_load_cells [.int .i64 op, .int .i64 rd, .int .i64 rs1, .int .i64 rs2, .int .i64 imm, .bool aq, .bool rl, .int .i64 pred, .int .i64 succ, .int .u64 xp, .int .u64 nx] rfl rfl HCS.out Tryd.underlying31 rfl (by kernel_rfl)) ?_))
        go_roundw
        case rel => exact ⟨k + 1, by omega, by first | rfl | go_num, by rw [HX2.out], HB1⟩
        case measure => simp [intOf]; omega
    · obtain rfl : k = l.length := by omega
      rw [HEND.out]
      go_wp2
      go_ret
      exact ⟨rfl, HB.out⟩
end Go.Proofs.YtdcmpmmbmjaaiaaDoor
