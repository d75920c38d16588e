/- The laws of layer 6, walked over what is asked of package decode. -/
import Derived.Test.YtbnacdhhacafkaaDoorRows
import Derived.Test.YtbnacdhhacafkaaDoorCd
import Derived.Test.YtbnacdhhacafkaaDoorCf
import Derived.WalkKit
import Derived.WalkLawsBesides
import Derived.Deep.QuietTactic
import Derived.BigQuiet
import Derived.WalkSmall
import Derived.WalkSpells
import Derived.Lib.Hide
import Derived.Below
import Derived.LoopTactic
import Derived.Deep.LoopGhost
import Derived.Outline
import Derived.Laws.Closers25b
import Derived.Laws.BitsAllLaws
import Derived.Deep.RegionHeld3
import Derived.Deep.DeepCutAuto
import Derived.Test.YtbnacdhhacafkaaDoorUq
namespace Go.Proofs.YtbnacdhhacafkaaDoor
open Go.RowKit

theorem op_addi : opW 10485907 = 22 := by decide +kernel
theorem op_zero : opW 0 = 0 := by decide +kernel
theorem dec_addi : decI 10485907 = ⟨22, 1, 0, 0, 10, false, false, 0, 0⟩ := by
  unfold decI
  rw [op_addi, if_neg (by decide)]
  unfold insOf
  rw [show getK (fmV 22) 10485907 32 = 10 by decide]
  rfl
theorem alive_any {W : World} (C : Cdec W) (w : World) (h : BW W w) : Calls Tryd.prog 7 #[] w fun e w' => e = .returned (.bool true) ∧ BW W w' := by
  have HA := fun w (h : BW W w) => past h (C.decode 10485907 w h ⟨by decide, by decide⟩)
  have HZ := fun w (h : BW W w) => past h (C.decode 0 w h ⟨by decide, by decide⟩)
  have HO := fun w (h : BW W w) => past h (C.opcode 54 w h ⟨by decide, by decide⟩)
  rw [dec_addi, show decE 10485907 = 0 by unfold decE decB; rw [op_addi]; rfl] at HA
  rw [show decI 0 = noIns by unfold decI; rw [op_zero]; rfl, show decE 0 = 2 by unfold decE decB; rw [op_zero]; rfl] at HZ
  rw [show ocV 54 = 47 by decide] at HO
  unfold insV at HA HZ
  simp only [noIns] at HA HZ
  go_enter Tryd.func7, Tryd.ntmps7
  go_wp2_with (first
    | (go_at_call 16; ((with_reducible refine (HA _ h).mono ?_); rintro e w1 ⟨rfl, hb1, hq⟩; clear hq))
    | (go_at_call 16; ((with_reducible refine (HZ _ (hb1.new _)).mono ?_); rintro e w2 ⟨rfl, hb2, hq⟩; have HJ := (Blk.new _ _ w1).on hq; have hz := HJ.lt; have c0 := HJ.cell 0; have c1 := HJ.cell 1; have c2 := HJ.cell 2; have c3 := HJ.cell 3; have c4 := HJ.cell 4; have c5 := HJ.cell 5; have c6 := HJ.cell 6; have c7 := HJ.cell 7; have c8 := HJ.cell 8; simp at c0 c1 c2 c3 c4 c5 c6 c7 c8; clear hq HJ))
    | (go_at_call 10; ((with_reducible refine (HO _ (hb2.new _)).mono ?_); rintro e w3 ⟨rfl, hb3, hq⟩; clear hq)))
  go_ret
  exact ⟨rfl, by assumption⟩

theorem u_bits (op : BinOp) (a b : Int) : U32 (bits op .u32 a b) := ⟨bits_lo_u32 op a b, by have := bits_hi_u32 op a b; omega⟩
theorem words_law {W : World} (C : Cdec W) (v : Int) (hv : U32 v) :
    Calls Tryd.prog 3 #[.int .u32 v] W fun e w' => e = .returned (.bool true) ∧ Below W.heap.size W w' := by
  have HB : BW W W := Below.refl _ _
  have L := fun w (h : BW W w) => alive_any C w h
  have O := fun v (hv : U32 v) w (h : BW W w) => one_any C v hv w h
  have HV := Lib.hid hv
  obtain ⟨v0, v1⟩ := hv
  go_enter Tryd.func3, Tryd.ntmps3
  go_wp2_with (first
    | (go_at_call 7; refine (L _ (by assumption)).mono ?_; rintro e w' ⟨rfl, HB⟩))
  go_loopw [3] (fun v3 wr => BW W wr ∧ ∃ k : Nat, v3 = .int .i64 k ∧ k ≤ 32) (fun v3 _ => (32 - intOf v3).toNat)
  case atStart => exact ⟨by assumption, 0, rfl, by omega⟩
  case round =>
    obtain ⟨hbw, k, rfl, hk⟩ := hrel
    obtain ⟨w3, rfl⟩ : ∃ w3 : World, w3 = wr := ⟨_, rfl⟩
    by_cases hlt : k < 32
    · have hltI : (k : Int) < 32 := by omega
      go_wp2_with (first
        | (go_at_call 8; refine (O _ ?_ _ (by assumption)).mono ?_; (first | exact u_bits _ _ _ | exact HV.out); rintro e w' ⟨rfl, HB⟩))
      go_roundw
      case rel => exact ⟨by assumption, k + 1, by go_num, by omega⟩
      case measure => simp [intOf]; omega
    · obtain rfl : k = 32 := by omega
      go_wp2_with (first
        | (go_at_call 7; refine (L _ (by assumption)).mono ?_; rintro e w' ⟨rfl, HB⟩)
        | (go_at_call 8; refine (O _ ?_ _ (by assumption)).mono ?_; (first | exact u_bits _ _ _ | exact HV.out); rintro e w' ⟨rfl, HB⟩))
      go_ret
      exact ⟨rfl, by assumption⟩

theorem ocV_range (op : Int) : 0 ≤ ocV op ∧ ocV op ≤ 127 := by
  unfold ocV tabI
  split
  · have hall : ∀ k : Fin 75, 0 ≤ ocL.getD k.val 0 ∧ ocL.getD k.val 0 ≤ 127 := by decide
    exact hall ⟨op.toNat - 1, by omega⟩
  · exact ⟨by decide, by decide⟩
theorem f3V_range (op : Int) : 0 ≤ f3V op ∧ f3V op ≤ 7 := by
  unfold f3V tabI
  split
  · have hall : ∀ k : Fin 75, 0 ≤ f3L.getD k.val 0 ∧ f3L.getD k.val 0 ≤ 7 := by decide
    exact hall ⟨op.toNat - 1, by omega⟩
  · exact ⟨by decide, by decide⟩
theorem fields_law {W : World} (C : Cdec W) (op v : Int) (ho : I64 op) (_ : U32 v) :
    Calls Tryd.prog 4 #[.int .i64 op, .int .u32 v] W fun e w' => e = .returned (.bool true) ∧ Below W.heap.size W w' := by
  have HB : BW W W := Below.refl _ _
  have L := fun w (h : BW W w) => alive_any C w h
  have O := fun v (hv : U32 v) w (h : BW W w) => one_any C v hv w h
  have P1 := fun w (h : BW W w) => past h (C.opcode op w h ho)
  have P2 : ∀ w, BW W w → Calls Tryd.prog 9 #[.int .i64 op] w fun e w' => e = .returned (.int .u32 (ocV op)) ∧ BW W w' := fun w (h : BW W w) => by
    by_cases hr : 1 ≤ op ∧ op ≤ 75
    · exact (oc_any op hr w).mono fun _ _ hh => ⟨hh.1, h.on hh.2⟩
    · exact (oc_other ho.1 ho.2 hr w).mono fun _ _ hh => ⟨hh.1, h.on hh.2⟩
  have PK1 := fun k (hk : I64 k) w (h : BW W w) => past h (C.opcode k w h hk)
  clear ho
  generalize ocV op = oc at *
  go_enter Tryd.func4, Tryd.ntmps4
  go_wp2_with (first
    | (go_at_call 7; refine (L _ (by assumption)).mono ?_; rintro e w' ⟨rfl, HB⟩))
  go_loopw [5] (fun v5 wr => BW W wr ∧ ∃ k : Nat, v5 = .int .i64 ((k : Int) + 1) ∧ k ≤ 75) (fun v5 _ => (76 - intOf v5).toNat)
  case atStart => exact ⟨by assumption, 0, rfl, by omega⟩
  case round =>
    obtain ⟨hbw, k, rfl, hk⟩ := hrel
    obtain ⟨w3, rfl⟩ : ∃ w3 : World, w3 = wr := ⟨_, rfl⟩
    by_cases hlt : k < 75
    · have hltI : (k : Int) + 1 ≤ 75 := by omega
      obtain ⟨c0, c1⟩ := ocV_range ((k : Int) + 1)
      obtain ⟨g0, g1⟩ := f3V_range ((k : Int) + 1)
      have K1 := fun w (h : BW W w) => PK1 ((k : Int) + 1) ⟨by omega, by omega⟩ w h
      have K2 := fun w (h : BW W w) => (oc_any ((k : Int) + 1) ⟨by omega, hltI⟩ w).mono fun e w' (hh : _ ∧ _) => And.intro hh.1 (BW.on h hh.2)
      have K3 := fun w (h : BW W w) => (fc_any ((k : Int) + 1) ⟨by omega, hltI⟩ w).mono fun e w' (hh : _ ∧ _) => And.intro hh.1 (BW.on h hh.2)
      generalize ocV ((k : Int) + 1) = kc at *
      generalize f3V ((k : Int) + 1) = kf at *
      go_wp2_with (first
        | (go_at_call 10; refine (K1 _ (by assumption)).mono ?_; rintro e w' ⟨rfl, HB, hq⟩; clear hq)
        | (go_at_call 9; refine (K2 _ (by assumption)).mono ?_; rintro e w' ⟨rfl, HB⟩)
        | (go_at_call 11; refine (K3 _ (by assumption)).mono ?_; rintro e w' ⟨rfl, HB⟩)
        | (go_at_call 8; refine (O _ ?_ _ (by assumption)).mono ?_; exact u_bits _ _ _; rintro e w' ⟨rfl, HB⟩))
      go_roundw
      case rel => exact ⟨by assumption, k + 1, by go_num, by omega⟩
      case measure => simp [intOf]; omega
    · obtain rfl : k = 75 := by omega
      go_wp2_with (first
        | (go_at_call 7; refine (L _ (by assumption)).mono ?_; rintro e w' ⟨rfl, HB⟩)
        | (go_at_call 10; refine (P1 _ (by assumption)).mono ?_; rintro e w' ⟨rfl, HB, hq⟩; clear hq)
        | (go_at_call 9; refine (P2 _ (by assumption)).mono ?_; rintro e w' ⟨rfl, HB⟩))
      go_ret
      exact ⟨rfl, by assumption⟩
end Go.Proofs.YtbnacdhhacafkaaDoor
/- The law on instructions without the registers that they haven't. -/
namespace Go.Proofs.YtbnacdhhacafkaaDoor
open Go.RowKit

/-- Two instructions lie whole: the one that came, and the one that is made. -/
def T2 (W : World) (g1 g3 : Nat) (i k : Ins) (w : World) : Prop := BW W w ∧ Blk (insCells i) 29 g1 w ∧ Blk (insCells k) 29 g3 w ∧ W.heap.size ≤ g3 ∧ g1 ≠ g3
section
variable {W w w' : World} {i k : Ins} {g1 g3 : Nat}
theorem T2.bw (h : T2 W g1 g3 i k w) : BW W w := h.1
theorem T2.on (h : T2 W g1 g3 i k w) (hb : Below w.heap.size w w') : T2 W g1 g3 i k w' := ⟨h.1.on hb, h.2.1.on hb, h.2.2.1.on hb, h.2.2.2⟩
theorem T2.st (h : T2 W g1 g3 i k w) (n : Nat) (v : Value) (k' : Ins) (e : (insCells k).setIfInBounds n v = insCells k') : T2 W g1 g3 i k' (w.setCell ⟨g3, n, none⟩ v) :=
  ⟨Below.setCell h.1 h.2.2.2.1 v, h.2.1.other (a := ⟨g3, n, none⟩) h.2.2.2.2 v, by have := h.2.2.1.set n v; rw [e] at this; exact this, h.2.2.2⟩
theorem T2.s1 (h : T2 W g1 g3 i k w) (x : Int) : T2 W g1 g3 i { k with rd := x } (w.setCell ⟨g3, 1, none⟩ (.int .i64 x)) := h.st 1 _ _ rfl
theorem T2.s2 (h : T2 W g1 g3 i k w) (x : Int) : T2 W g1 g3 i { k with rs1 := x } (w.setCell ⟨g3, 2, none⟩ (.int .i64 x)) := h.st 2 _ _ rfl
theorem T2.s3 (h : T2 W g1 g3 i k w) (x : Int) : T2 W g1 g3 i { k with rs2 := x } (w.setCell ⟨g3, 3, none⟩ (.int .i64 x)) := h.st 3 _ _ rfl
theorem T2.drew (h : T2 W g1 g3 i k w) : T2 W g1 g3 i k w.drew := ⟨Below.drew h.1, h.2.1.drew, h.2.2.1.drew, h.2.2.2⟩
theorem T2.facts (h : T2 W g1 g3 i k w) : w.cell? ⟨g1, 0, none⟩ = some (.int .i64 i.op) ∧ w.cell? ⟨g3, 1, none⟩ = some (.int .i64 k.rd) ∧ w.cell? ⟨g3, 2, none⟩ = some (.int .i64 k.rs1) ∧ w.cell? ⟨g3, 3, none⟩ = some (.int .i64 k.rs2) ∧
    w.frozen? ⟨g3, 1, none⟩ = false ∧ w.frozen? ⟨g3, 2, none⟩ = false ∧ w.frozen? ⟨g3, 3, none⟩ = false :=
  ⟨h.2.1.cell 0, h.2.2.1.cell 1, h.2.2.1.cell 2, h.2.2.1.cell 3, h.2.2.1.free 1, h.2.2.1.free 2, h.2.2.1.free 3⟩
end
/-- The cells of an instruction, one by one. -/
def C9 (g : Nat) (i : Ins) (w : World) : Prop :=
  w.cell? ⟨g, 0, none⟩ = some (.int .i64 i.op) ∧ w.cell? ⟨g, 1, none⟩ = some (.int .i64 i.rd) ∧ w.cell? ⟨g, 2, none⟩ = some (.int .i64 i.rs1) ∧ w.cell? ⟨g, 3, none⟩ = some (.int .i64 i.rs2) ∧ w.cell? ⟨g, 4, none⟩ = some (.int .i64 i.imm) ∧
    w.cell? ⟨g, 5, none⟩ = some (.bool i.aq) ∧ w.cell? ⟨g, 6, none⟩ = some (.bool i.rl) ∧ w.cell? ⟨g, 7, none⟩ = some (.int .i64 i.pred) ∧ w.cell? ⟨g, 8, none⟩ = some (.int .i64 i.succ)
theorem C9.of {g : Nat} {i : Ins} {w : World} {t : TypeId} (h : Blk (insCells i) t g w) : C9 g i w := ⟨h.cell 0, h.cell 1, h.cell 2, h.cell 3, h.cell 4, h.cell 5, h.cell 6, h.cell 7, h.cell 8⟩

set_option maxHeartbeats 2000000 in
theorem cleans_law {W : World} (C : Cdec W) (i : Ins) (ho : I64 i.op) :
    Calls Tryd.prog 5 #[insV i] W fun e w' => e = .returned (.bool true) ∧ Below W.heap.size W w' := by
  have HN := Blk.new (insCells i) 29 W
  have HW : BW W (W.alloc (.cells (insCells i) 29)) := BW.new (Below.refl _ _) _
  have L := fun w (h : BW W w) => alive_any C w h
  have L2 := fun w (h : BW W w) => (alive_any (C.on h) w (Below.refl _ _))
  have KC := fun w (h : BW W w) => past h (C.clean i w h ho)
  have KW := fun w (h : BW W w) => past h (rwrites_any i.op ho.1 ho.2 w)
  have KF := fun w (h : BW W w) => past h (rfirst_any i.op ho.1 ho.2 w)
  have KS := fun w (h : BW W w) => past h (rsecond_any i.op ho.1 ho.2 w)
  have hcl : clnI i = { i with rd := if wrB i.op then i.rd else 0, rs1 := if firB i.op then i.rs1 else 0, rs2 := if secB i.op then i.rs2 else 0 } := rfl
  unfold insV at KC ⊢
  unfold insCells at HN HW
  cases h1 : wrB i.op <;> cases h2 : firB i.op <;> cases h3 : secB i.op
  all_goals
    rw [h1, h2, h3] at hcl
    rw [hcl] at KC
    rw [h1] at KW
    rw [h2] at KF
    rw [h3] at KS
    clear h1 h2 h3 hcl
    obtain ⟨op, rd, rs1, rs2, imm, aq, rl, pred, succ⟩ := i
    simp only [if_true, Bool.false_eq_true, if_false] at KC KW KF KS HN HW ⊢
  case false.false.false =>
    have heq := fun w => run_eql_same (P := Tryd.prog) (xs := insCells ⟨op, 0, 0, 0, imm, aq, rl, pred, succ⟩) w 29 (by kernel_rfl) (by kernel_rfl) (by kernel_rfl)
    unfold insCells at heq
    simp only at heq
    have HE := Lib.hid heq
    clear heq
    go_enter Tryd.func5, Tryd.ntmps5
    go_upto_region 1 with (fail)
    generalize W.alloc (.cells _ 29) = w1 at *
    obtain ⟨g1, hg1⟩ : ∃ g, W.heap.size = g := ⟨_, rfl⟩
    have HN' : Blk (insCells ⟨op, rd, rs1, rs2, imm, aq, rl, pred, succ⟩) 29 g1 w1 := by rw [← hg1]; exact HN
    rw [hg1]
    have HG := Lib.hid hg1
    clear hg1 HN
    go_upto_region 4 with (first
      | (go_at_call 7; refine (L2 _ HW).mono ?_; rintro e w2 ⟨rfl, hb⟩; have HB2 := HW.on hb; have HN2 := HN'.on hb; simp only [insCells] at HN2; clear hb)
      | (with_reducible refine load_blk (o := ⟨some 6, _, _, _, _, _⟩) rfl 29 (.tmp 1) rfl HN2 rfl Tryd.underlying29 rfl (by kernel_rfl) ?_))
    have HJ : T2 W g1 w2.heap.size ⟨op, rd, rs1, rs2, imm, aq, rl, pred, succ⟩ ⟨op, rd, rs1, rs2, imm, aq, rl, pred, succ⟩ (w2.alloc (.cells (insCells ⟨op, rd, rs1, rs2, imm, aq, rl, pred, succ⟩) 29)) := ⟨HB2.new _, Blk.alloc HN2 _, Blk.new _ _ _, Below.size HB2, Nat.ne_of_lt HN2.lt⟩
    simp only [insCells] at HJ
    generalize w2.alloc (.cells _ 29) = w5 at *
    obtain ⟨g3, hg3⟩ : ∃ g, w2.heap.size = g := ⟨_, rfl⟩
    rw [hg3] at HJ ⊢
    obtain ⟨c0, c1, c2, c3, f1, f2, f3⟩ := HJ.facts
    clear hg3 HN2 HB2 HN' HW
    go_upto_region 10 with (first
      | (go_at_call 12; (first | ((with_reducible refine (KW _ HJ.bw).mono ?_); rintro e w6 ⟨rfl, hx, hq⟩; have HJ' := HJ.on hq) | ((with_reducible refine (KW _ (HJ.s1 _).bw).mono ?_); rintro e w6 ⟨rfl, hx, hq⟩; have HJ' := (HJ.s1 _).on hq) | ((with_reducible refine (KW _ (HJ.s2 _).bw).mono ?_); rintro e w6 ⟨rfl, hx, hq⟩; have HJ' := (HJ.s2 _).on hq)); clear HJ hx hq; have HJ := HJ'; clear HJ'; obtain ⟨c0, c1, c2, c3, f1, f2, f3⟩ := HJ.facts)
      | (go_at_call 13; (first | ((with_reducible refine (KF _ HJ.bw).mono ?_); rintro e w6 ⟨rfl, hx, hq⟩; have HJ' := HJ.on hq) | ((with_reducible refine (KF _ (HJ.s1 _).bw).mono ?_); rintro e w6 ⟨rfl, hx, hq⟩; have HJ' := (HJ.s1 _).on hq) | ((with_reducible refine (KF _ (HJ.s2 _).bw).mono ?_); rintro e w6 ⟨rfl, hx, hq⟩; have HJ' := (HJ.s2 _).on hq)); clear HJ hx hq; have HJ := HJ'; clear HJ'; obtain ⟨c0, c1, c2, c3, f1, f2, f3⟩ := HJ.facts)
      | (go_at_call 14; (first | ((with_reducible refine (KS _ HJ.bw).mono ?_); rintro e w6 ⟨rfl, hx, hq⟩; have HJ' := HJ.on hq) | ((with_reducible refine (KS _ (HJ.s1 _).bw).mono ?_); rintro e w6 ⟨rfl, hx, hq⟩; have HJ' := (HJ.s1 _).on hq) | ((with_reducible refine (KS _ (HJ.s2 _).bw).mono ?_); rintro e w6 ⟨rfl, hx, hq⟩; have HJ' := (HJ.s2 _).on hq)); clear HJ hx hq; have HJ := HJ'; clear HJ'; obtain ⟨c0, c1, c2, c3, f1, f2, f3⟩ := HJ.facts))
    have HF : T2 W g1 g3 ⟨op, rd, rs1, rs2, imm, aq, rl, pred, succ⟩ ⟨op, 0, 0, 0, imm, aq, rl, pred, succ⟩ _ := HJ.s3 0
    have HF2 := HF
    obtain ⟨hb9, hi9, hk9, hs9, hn9⟩ := HF
    have hi8 := C9.of hi9
    have hk8 := C9.of hk9
    have KD : ∀ w, T2 W g1 g3 ⟨op, rd, rs1, rs2, imm, aq, rl, pred, succ⟩ ⟨op, 0, 0, 0, imm, aq, rl, pred, succ⟩ w → Calls Tryd.prog 15 #[.agg #[.int .i64 op, .int .i64 rd, .int .i64 rs1, .int .i64 rs2, .int .i64 imm, .bool aq, .bool rl, .int .i64 pred, .int .i64 succ]] w fun e w' =>
        e = .returned (.agg #[.int .i64 op, .int .i64 0, .int .i64 0, .int .i64 0, .int .i64 imm, .bool aq, .bool rl, .int .i64 pred, .int .i64 succ]) ∧ T2 W g1 g3 ⟨op, rd, rs1, rs2, imm, aq, rl, pred, succ⟩ ⟨op, 0, 0, 0, imm, aq, rl, pred, succ⟩ w' ∧ w'.cell? ⟨g1, 0, none⟩ = some (.int .i64 op) ∧ w'.cell? ⟨g1, 1, none⟩ = some (.int .i64 rd) ∧ w'.cell? ⟨g1, 2, none⟩ = some (.int .i64 rs1) ∧ w'.cell? ⟨g1, 3, none⟩ = some (.int .i64 rs2) ∧ w'.cell? ⟨g1, 4, none⟩ = some (.int .i64 imm) ∧ w'.cell? ⟨g1, 5, none⟩ = some (.bool aq) ∧ w'.cell? ⟨g1, 6, none⟩ = some (.bool rl) ∧ w'.cell? ⟨g1, 7, none⟩ = some (.int .i64 pred) ∧ w'.cell? ⟨g1, 8, none⟩ = some (.int .i64 succ) ∧ w'.cell? ⟨g3, 0, none⟩ = some (.int .i64 op) ∧ w'.cell? ⟨g3, 1, none⟩ = some (.int .i64 0) ∧ w'.cell? ⟨g3, 2, none⟩ = some (.int .i64 0) ∧ w'.cell? ⟨g3, 3, none⟩ = some (.int .i64 0) ∧ w'.cell? ⟨g3, 4, none⟩ = some (.int .i64 imm) ∧ w'.cell? ⟨g3, 5, none⟩ = some (.bool aq) ∧ w'.cell? ⟨g3, 6, none⟩ = some (.bool rl) ∧ w'.cell? ⟨g3, 7, none⟩ = some (.int .i64 pred) ∧ w'.cell? ⟨g3, 8, none⟩ = some (.int .i64 succ) :=
      fun w h => (KC w h.bw).mono fun e w' hh => by
        obtain ⟨he, hbw, hq⟩ := hh
        have h' := h.on hq
        obtain ⟨a0, a1, a2, a3, a4, a5, a6, a7, a8⟩ := C9.of h'.2.1
        exact ⟨he, h', a0, a1, a2, a3, a4, a5, a6, a7, a8, C9.of h'.2.2.1⟩
    generalize (w6.setCell ⟨g3, 3, none⟩ (.int .i64 0)) = w9 at *
    obtain ⟨a0, a1, a2, a3, a4, a5, a6, a7, a8⟩ := hi8
    obtain ⟨k0, k1, k2, k3, k4, k5, k6, k7, k8⟩ := hk8
    simp only at a0 a1 a2 a3 a4 a5 a6 a7 a8 k0 k1 k2 k3 k4 k5 k6 k7 k8
    have heq := HE.out
    clear KC KW KF KS L L2 hb9 hi9 hk9
    go_region_held3 (fun w' => T2 W g1 g3 ⟨op, rd, rs1, rs2, imm, aq, rl, pred, succ⟩ ⟨op, 0, 0, 0, imm, aq, rl, pred, succ⟩ w' ∧ w'.cell? ⟨g1, 0, none⟩ = some (.int .i64 op) ∧ w'.cell? ⟨g1, 1, none⟩ = some (.int .i64 rd) ∧ w'.cell? ⟨g1, 2, none⟩ = some (.int .i64 rs1) ∧ w'.cell? ⟨g1, 3, none⟩ = some (.int .i64 rs2) ∧ w'.cell? ⟨g1, 4, none⟩ = some (.int .i64 imm) ∧ w'.cell? ⟨g1, 5, none⟩ = some (.bool aq) ∧ w'.cell? ⟨g1, 6, none⟩ = some (.bool rl) ∧ w'.cell? ⟨g1, 7, none⟩ = some (.int .i64 pred) ∧ w'.cell? ⟨g1, 8, none⟩ = some (.int .i64 succ) ∧ w'.cell? ⟨g3, 0, none⟩ = some (.int .i64 op) ∧ w'.cell? ⟨g3, 1, none⟩ = some (.int .i64 0) ∧ w'.cell? ⟨g3, 2, none⟩ = some (.int .i64 0) ∧ w'.cell? ⟨g3, 3, none⟩ = some (.int .i64 0) ∧ w'.cell? ⟨g3, 4, none⟩ = some (.int .i64 imm) ∧ w'.cell? ⟨g3, 5, none⟩ = some (.bool aq) ∧ w'.cell? ⟨g3, 6, none⟩ = some (.bool rl) ∧ w'.cell? ⟨g3, 7, none⟩ = some (.int .i64 pred) ∧ w'.cell? ⟨g3, 8, none⟩ = some (.int .i64 succ))
      (first | (exact ⟨by assumption, by assumption, by assumption, by assumption, by assumption, by assumption, by assumption, by assumption, by assumption, by assumption, by assumption, by assumption, by assumption, by assumption, by assumption, by assumption, by assumption, by assumption, by assumption⟩) | (exact ⟨T2.drew (by assumption), by assumption, by assumption, by assumption, by assumption, by assumption, by assumption, by assumption, by assumption, by assumption, by assumption, by assumption, by assumption, by assumption, by assumption, by assumption, by assumption, by assumption, by assumption⟩) | (refine ⟨?_, ?_, ?_, ?_, ?_, ?_, ?_, ?_, ?_, ?_, ?_, ?_, ?_, ?_, ?_, ?_, ?_, ?_, ?_⟩ <;> go_keep))
      (first
        | (go_at_call 15; refine (KD _ ?_).mono ?_; (first | assumption | exact T2.drew (by assumption)); rintro e w' ⟨rfl, hJ2, b0, b1, b2, b3, b4, b5, b6, b7, b8, d0, d1, d2, d3, d4, d5, d6, d7, d8⟩))
    all_goals go_wp2
    all_goals go_ret
    all_goals refine ⟨rfl, ?_⟩
    all_goals first | exact Below.mono (T2.bw (by assumption)) (Nat.le_refl _) | exact (by assumption : T2 W g1 g3 _ _ _).1
  case false.false.true =>
    have heq := fun w => run_eql_same (P := Tryd.prog) (xs := insCells ⟨op, 0, 0, rs2, imm, aq, rl, pred, succ⟩) w 29 (by kernel_rfl) (by kernel_rfl) (by kernel_rfl)
    unfold insCells at heq
    simp only at heq
    have HE := Lib.hid heq
    clear heq
    go_enter Tryd.func5, Tryd.ntmps5
    go_upto_region 1 with (fail)
    generalize W.alloc (.cells _ 29) = w1 at *
    obtain ⟨g1, hg1⟩ : ∃ g, W.heap.size = g := ⟨_, rfl⟩
    have HN' : Blk (insCells ⟨op, rd, rs1, rs2, imm, aq, rl, pred, succ⟩) 29 g1 w1 := by rw [← hg1]; exact HN
    rw [hg1]
    have HG := Lib.hid hg1
    clear hg1 HN
    go_upto_region 4 with (first
      | (go_at_call 7; refine (L2 _ HW).mono ?_; rintro e w2 ⟨rfl, hb⟩; have HB2 := HW.on hb; have HN2 := HN'.on hb; simp only [insCells] at HN2; clear hb)
      | (with_reducible refine load_blk (o := ⟨some 6, _, _, _, _, _⟩) rfl 29 (.tmp 1) rfl HN2 rfl Tryd.underlying29 rfl (by kernel_rfl) ?_))
    have HJ : T2 W g1 w2.heap.size ⟨op, rd, rs1, rs2, imm, aq, rl, pred, succ⟩ ⟨op, rd, rs1, rs2, imm, aq, rl, pred, succ⟩ (w2.alloc (.cells (insCells ⟨op, rd, rs1, rs2, imm, aq, rl, pred, succ⟩) 29)) := ⟨HB2.new _, Blk.alloc HN2 _, Blk.new _ _ _, Below.size HB2, Nat.ne_of_lt HN2.lt⟩
    simp only [insCells] at HJ
    generalize w2.alloc (.cells _ 29) = w5 at *
    obtain ⟨g3, hg3⟩ : ∃ g, w2.heap.size = g := ⟨_, rfl⟩
    rw [hg3] at HJ ⊢
    obtain ⟨c0, c1, c2, c3, f1, f2, f3⟩ := HJ.facts
    clear hg3 HN2 HB2 HN' HW
    go_upto_region 10 with (first
      | (go_at_call 12; (first | ((with_reducible refine (KW _ HJ.bw).mono ?_); rintro e w6 ⟨rfl, hx, hq⟩; have HJ' := HJ.on hq) | ((with_reducible refine (KW _ (HJ.s1 _).bw).mono ?_); rintro e w6 ⟨rfl, hx, hq⟩; have HJ' := (HJ.s1 _).on hq) | ((with_reducible refine (KW _ (HJ.s2 _).bw).mono ?_); rintro e w6 ⟨rfl, hx, hq⟩; have HJ' := (HJ.s2 _).on hq)); clear HJ hx hq; have HJ := HJ'; clear HJ'; obtain ⟨c0, c1, c2, c3, f1, f2, f3⟩ := HJ.facts)
      | (go_at_call 13; (first | ((with_reducible refine (KF _ HJ.bw).mono ?_); rintro e w6 ⟨rfl, hx, hq⟩; have HJ' := HJ.on hq) | ((with_reducible refine (KF _ (HJ.s1 _).bw).mono ?_); rintro e w6 ⟨rfl, hx, hq⟩; have HJ' := (HJ.s1 _).on hq) | ((with_reducible refine (KF _ (HJ.s2 _).bw).mono ?_); rintro e w6 ⟨rfl, hx, hq⟩; have HJ' := (HJ.s2 _).on hq)); clear HJ hx hq; have HJ := HJ'; clear HJ'; obtain ⟨c0, c1, c2, c3, f1, f2, f3⟩ := HJ.facts)
      | (go_at_call 14; (first | ((with_reducible refine (KS _ HJ.bw).mono ?_); rintro e w6 ⟨rfl, hx, hq⟩; have HJ' := HJ.on hq) | ((with_reducible refine (KS _ (HJ.s1 _).bw).mono ?_); rintro e w6 ⟨rfl, hx, hq⟩; have HJ' := (HJ.s1 _).on hq) | ((with_reducible refine (KS _ (HJ.s2 _).bw).mono ?_); rintro e w6 ⟨rfl, hx, hq⟩; have HJ' := (HJ.s2 _).on hq)); clear HJ hx hq; have HJ := HJ'; clear HJ'; obtain ⟨c0, c1, c2, c3, f1, f2, f3⟩ := HJ.facts))
    have HF : T2 W g1 g3 ⟨op, rd, rs1, rs2, imm, aq, rl, pred, succ⟩ ⟨op, 0, 0, rs2, imm, aq, rl, pred, succ⟩ _ := HJ
    have HF2 := HF
    obtain ⟨hb9, hi9, hk9, hs9, hn9⟩ := HF
    have hi8 := C9.of hi9
    have hk8 := C9.of hk9
    have KD : ∀ w, T2 W g1 g3 ⟨op, rd, rs1, rs2, imm, aq, rl, pred, succ⟩ ⟨op, 0, 0, rs2, imm, aq, rl, pred, succ⟩ w → Calls Tryd.prog 15 #[.agg #[.int .i64 op, .int .i64 rd, .int .i64 rs1, .int .i64 rs2, .int .i64 imm, .bool aq, .bool rl, .int .i64 pred, .int .i64 succ]] w fun e w' =>
        e = .returned (.agg #[.int .i64 op, .int .i64 0, .int .i64 0, .int .i64 rs2, .int .i64 imm, .bool aq, .bool rl, .int .i64 pred, .int .i64 succ]) ∧ T2 W g1 g3 ⟨op, rd, rs1, rs2, imm, aq, rl, pred, succ⟩ ⟨op, 0, 0, rs2, imm, aq, rl, pred, succ⟩ w' ∧ w'.cell? ⟨g1, 0, none⟩ = some (.int .i64 op) ∧ w'.cell? ⟨g1, 1, none⟩ = some (.int .i64 rd) ∧ w'.cell? ⟨g1, 2, none⟩ = some (.int .i64 rs1) ∧ w'.cell? ⟨g1, 3, none⟩ = some (.int .i64 rs2) ∧ w'.cell? ⟨g1, 4, none⟩ = some (.int .i64 imm) ∧ w'.cell? ⟨g1, 5, none⟩ = some (.bool aq) ∧ w'.cell? ⟨g1, 6, none⟩ = some (.bool rl) ∧ w'.cell? ⟨g1, 7, none⟩ = some (.int .i64 pred) ∧ w'.cell? ⟨g1, 8, none⟩ = some (.int .i64 succ) ∧ w'.cell? ⟨g3, 0, none⟩ = some (.int .i64 op) ∧ w'.cell? ⟨g3, 1, none⟩ = some (.int .i64 0) ∧ w'.cell? ⟨g3, 2, none⟩ = some (.int .i64 0) ∧ w'.cell? ⟨g3, 3, none⟩ = some (.int .i64 rs2) ∧ w'.cell? ⟨g3, 4, none⟩ = some (.int .i64 imm) ∧ w'.cell? ⟨g3, 5, none⟩ = some (.bool aq) ∧ w'.cell? ⟨g3, 6, none⟩ = some (.bool rl) ∧ w'.cell? ⟨g3, 7, none⟩ = some (.int .i64 pred) ∧ w'.cell? ⟨g3, 8, none⟩ = some (.int .i64 succ) :=
      fun w h => (KC w h.bw).mono fun e w' hh => by
        obtain ⟨he, hbw, hq⟩ := hh
        have h' := h.on hq
        obtain ⟨a0, a1, a2, a3, a4, a5, a6, a7, a8⟩ := C9.of h'.2.1
        exact ⟨he, h', a0, a1, a2, a3, a4, a5, a6, a7, a8, C9.of h'.2.2.1⟩
    generalize w6 = w9 at *
    obtain ⟨a0, a1, a2, a3, a4, a5, a6, a7, a8⟩ := hi8
    obtain ⟨k0, k1, k2, k3, k4, k5, k6, k7, k8⟩ := hk8
    simp only at a0 a1 a2 a3 a4 a5 a6 a7 a8 k0 k1 k2 k3 k4 k5 k6 k7 k8
    have heq := HE.out
    clear KC KW KF KS L L2 hb9 hi9 hk9
    go_region_held3 (fun w' => T2 W g1 g3 ⟨op, rd, rs1, rs2, imm, aq, rl, pred, succ⟩ ⟨op, 0, 0, rs2, imm, aq, rl, pred, succ⟩ w' ∧ w'.cell? ⟨g1, 0, none⟩ = some (.int .i64 op) ∧ w'.cell? ⟨g1, 1, none⟩ = some (.int .i64 rd) ∧ w'.cell? ⟨g1, 2, none⟩ = some (.int .i64 rs1) ∧ w'.cell? ⟨g1, 3, none⟩ = some (.int .i64 rs2) ∧ w'.cell? ⟨g1, 4, none⟩ = some (.int .i64 imm) ∧ w'.cell? ⟨g1, 5, none⟩ = some (.bool aq) ∧ w'.cell? ⟨g1, 6, none⟩ = some (.bool rl) ∧ w'.cell? ⟨g1, 7, none⟩ = some (.int .i64 pred) ∧ w'.cell? ⟨g1, 8, none⟩ = some (.int .i64 succ) ∧ w'.cell? ⟨g3, 0, none⟩ = some (.int .i64 op) ∧ w'.cell? ⟨g3, 1, none⟩ = some (.int .i64 0) ∧ w'.cell? ⟨g3, 2, none⟩ = some (.int .i64 0) ∧ w'.cell? ⟨g3, 3, none⟩ = some (.int .i64 rs2) ∧ w'.cell? ⟨g3, 4, none⟩ = some (.int .i64 imm) ∧ w'.cell? ⟨g3, 5, none⟩ = some (.bool aq) ∧ w'.cell? ⟨g3, 6, none⟩ = some (.bool rl) ∧ w'.cell? ⟨g3, 7, none⟩ = some (.int .i64 pred) ∧ w'.cell? ⟨g3, 8, none⟩ = some (.int .i64 succ))
      (first | (exact ⟨by assumption, by assumption, by assumption, by assumption, by assumption, by assumption, by assumption, by assumption, by assumption, by assumption, by assumption, by assumption, by assumption, by assumption, by assumption, by assumption, by assumption, by assumption, by assumption⟩) | (exact ⟨T2.drew (by assumption), by assumption, by assumption, by assumption, by assumption, by assumption, by assumption, by assumption, by assumption, by assumption, by assumption, by assumption, by assumption, by assumption, by assumption, by assumption, by assumption, by assumption, by assumption⟩) | (refine ⟨?_, ?_, ?_, ?_, ?_, ?_, ?_, ?_, ?_, ?_, ?_, ?_, ?_, ?_, ?_, ?_, ?_, ?_, ?_⟩ <;> go_keep))
      (first
        | (go_at_call 15; refine (KD _ ?_).mono ?_; (first | assumption | exact T2.drew (by assumption)); rintro e w' ⟨rfl, hJ2, b0, b1, b2, b3, b4, b5, b6, b7, b8, d0, d1, d2, d3, d4, d5, d6, d7, d8⟩))
    all_goals go_wp2
    all_goals go_ret
    all_goals refine ⟨rfl, ?_⟩
    all_goals first | exact Below.mono (T2.bw (by assumption)) (Nat.le_refl _) | exact (by assumption : T2 W g1 g3 _ _ _).1
  case false.true.false =>
    have heq := fun w => run_eql_same (P := Tryd.prog) (xs := insCells ⟨op, 0, rs1, 0, imm, aq, rl, pred, succ⟩) w 29 (by kernel_rfl) (by kernel_rfl) (by kernel_rfl)
    unfold insCells at heq
    simp only at heq
    have HE := Lib.hid heq
    clear heq
    go_enter Tryd.func5, Tryd.ntmps5
    go_upto_region 1 with (fail)
    generalize W.alloc (.cells _ 29) = w1 at *
    obtain ⟨g1, hg1⟩ : ∃ g, W.heap.size = g := ⟨_, rfl⟩
    have HN' : Blk (insCells ⟨op, rd, rs1, rs2, imm, aq, rl, pred, succ⟩) 29 g1 w1 := by rw [← hg1]; exact HN
    rw [hg1]
    have HG := Lib.hid hg1
    clear hg1 HN
    go_upto_region 4 with (first
      | (go_at_call 7; refine (L2 _ HW).mono ?_; rintro e w2 ⟨rfl, hb⟩; have HB2 := HW.on hb; have HN2 := HN'.on hb; simp only [insCells] at HN2; clear hb)
      | (with_reducible refine load_blk (o := ⟨some 6, _, _, _, _, _⟩) rfl 29 (.tmp 1) rfl HN2 rfl Tryd.underlying29 rfl (by kernel_rfl) ?_))
    have HJ : T2 W g1 w2.heap.size ⟨op, rd, rs1, rs2, imm, aq, rl, pred, succ⟩ ⟨op, rd, rs1, rs2, imm, aq, rl, pred, succ⟩ (w2.alloc (.cells (insCells ⟨op, rd, rs1, rs2, imm, aq, rl, pred, succ⟩) 29)) := ⟨HB2.new _, Blk.alloc HN2 _, Blk.new _ _ _, Below.size HB2, Nat.ne_of_lt HN2.lt⟩
    simp only [insCells] at HJ
    generalize w2.alloc (.cells _ 29) = w5 at *
    obtain ⟨g3, hg3⟩ : ∃ g, w2.heap.size = g := ⟨_, rfl⟩
    rw [hg3] at HJ ⊢
    obtain ⟨c0, c1, c2, c3, f1, f2, f3⟩ := HJ.facts
    clear hg3 HN2 HB2 HN' HW
    go_upto_region 10 with (first
      | (go_at_call 12; (first | ((with_reducible refine (KW _ HJ.bw).mono ?_); rintro e w6 ⟨rfl, hx, hq⟩; have HJ' := HJ.on hq) | ((with_reducible refine (KW _ (HJ.s1 _).bw).mono ?_); rintro e w6 ⟨rfl, hx, hq⟩; have HJ' := (HJ.s1 _).on hq) | ((with_reducible refine (KW _ (HJ.s2 _).bw).mono ?_); rintro e w6 ⟨rfl, hx, hq⟩; have HJ' := (HJ.s2 _).on hq)); clear HJ hx hq; have HJ := HJ'; clear HJ'; obtain ⟨c0, c1, c2, c3, f1, f2, f3⟩ := HJ.facts)
      | (go_at_call 13; (first | ((with_reducible refine (KF _ HJ.bw).mono ?_); rintro e w6 ⟨rfl, hx, hq⟩; have HJ' := HJ.on hq) | ((with_reducible refine (KF _ (HJ.s1 _).bw).mono ?_); rintro e w6 ⟨rfl, hx, hq⟩; have HJ' := (HJ.s1 _).on hq) | ((with_reducible refine (KF _ (HJ.s2 _).bw).mono ?_); rintro e w6 ⟨rfl, hx, hq⟩; have HJ' := (HJ.s2 _).on hq)); clear HJ hx hq; have HJ := HJ'; clear HJ'; obtain ⟨c0, c1, c2, c3, f1, f2, f3⟩ := HJ.facts)
      | (go_at_call 14; (first | ((with_reducible refine (KS _ HJ.bw).mono ?_); rintro e w6 ⟨rfl, hx, hq⟩; have HJ' := HJ.on hq) | ((with_reducible refine (KS _ (HJ.s1 _).bw).mono ?_); rintro e w6 ⟨rfl, hx, hq⟩; have HJ' := (HJ.s1 _).on hq) | ((with_reducible refine (KS _ (HJ.s2 _).bw).mono ?_); rintro e w6 ⟨rfl, hx, hq⟩; have HJ' := (HJ.s2 _).on hq)); clear HJ hx hq; have HJ := HJ'; clear HJ'; obtain ⟨c0, c1, c2, c3, f1, f2, f3⟩ := HJ.facts))
    have HF : T2 W g1 g3 ⟨op, rd, rs1, rs2, imm, aq, rl, pred, succ⟩ ⟨op, 0, rs1, 0, imm, aq, rl, pred, succ⟩ _ := HJ.s3 0
    have HF2 := HF
    obtain ⟨hb9, hi9, hk9, hs9, hn9⟩ := HF
    have hi8 := C9.of hi9
    have hk8 := C9.of hk9
    have KD : ∀ w, T2 W g1 g3 ⟨op, rd, rs1, rs2, imm, aq, rl, pred, succ⟩ ⟨op, 0, rs1, 0, imm, aq, rl, pred, succ⟩ w → Calls Tryd.prog 15 #[.agg #[.int .i64 op, .int .i64 rd, .int .i64 rs1, .int .i64 rs2, .int .i64 imm, .bool aq, .bool rl, .int .i64 pred, .int .i64 succ]] w fun e w' =>
        e = .returned (.agg #[.int .i64 op, .int .i64 0, .int .i64 rs1, .int .i64 0, .int .i64 imm, .bool aq, .bool rl, .int .i64 pred, .int .i64 succ]) ∧ T2 W g1 g3 ⟨op, rd, rs1, rs2, imm, aq, rl, pred, succ⟩ ⟨op, 0, rs1, 0, imm, aq, rl, pred, succ⟩ w' ∧ w'.cell? ⟨g1, 0, none⟩ = some (.int .i64 op) ∧ w'.cell? ⟨g1, 1, none⟩ = some (.int .i64 rd) ∧ w'.cell? ⟨g1, 2, none⟩ = some (.int .i64 rs1) ∧ w'.cell? ⟨g1, 3, none⟩ = some (.int .i64 rs2) ∧ w'.cell? ⟨g1, 4, none⟩ = some (.int .i64 imm) ∧ w'.cell? ⟨g1, 5, none⟩ = some (.bool aq) ∧ w'.cell? ⟨g1, 6, none⟩ = some (.bool rl) ∧ w'.cell? ⟨g1, 7, none⟩ = some (.int .i64 pred) ∧ w'.cell? ⟨g1, 8, none⟩ = some (.int .i64 succ) ∧ w'.cell? ⟨g3, 0, none⟩ = some (.int .i64 op) ∧ w'.cell? ⟨g3, 1, none⟩ = some (.int .i64 0) ∧ w'.cell? ⟨g3, 2, none⟩ = some (.int .i64 rs1) ∧ w'.cell? ⟨g3, 3, none⟩ = some (.int .i64 0) ∧ w'.cell? ⟨g3, 4, none⟩ = some (.int .i64 imm) ∧ w'.cell? ⟨g3, 5, none⟩ = some (.bool aq) ∧ w'.cell? ⟨g3, 6, none⟩ = some (.bool rl) ∧ w'.cell? ⟨g3, 7, none⟩ = some (.int .i64 pred) ∧ w'.cell? ⟨g3, 8, none⟩ = some (.int .i64 succ) :=
      fun w h => (KC w h.bw).mono fun e w' hh => by
        obtain ⟨he, hbw, hq⟩ := hh
        have h' := h.on hq
        obtain ⟨a0, a1, a2, a3, a4, a5, a6, a7, a8⟩ := C9.of h'.2.1
        exact ⟨he, h', a0, a1, a2, a3, a4, a5, a6, a7, a8, C9.of h'.2.2.1⟩
    generalize (w6.setCell ⟨g3, 3, none⟩ (.int .i64 0)) = w9 at *
    obtain ⟨a0, a1, a2, a3, a4, a5, a6, a7, a8⟩ := hi8
    obtain ⟨k0, k1, k2, k3, k4, k5, k6, k7, k8⟩ := hk8
    simp only at a0 a1 a2 a3 a4 a5 a6 a7 a8 k0 k1 k2 k3 k4 k5 k6 k7 k8
    have heq := HE.out
    clear KC KW KF KS L L2 hb9 hi9 hk9
    go_region_held3 (fun w' => T2 W g1 g3 ⟨op, rd, rs1, rs2, imm, aq, rl, pred, succ⟩ ⟨op, 0, rs1, 0, imm, aq, rl, pred, succ⟩ w' ∧ w'.cell? ⟨g1, 0, none⟩ = some (.int .i64 op) ∧ w'.cell? ⟨g1, 1, none⟩ = some (.int .i64 rd) ∧ w'.cell? ⟨g1, 2, none⟩ = some (.int .i64 rs1) ∧ w'.cell? ⟨g1, 3, none⟩ = some (.int .i64 rs2) ∧ w'.cell? ⟨g1, 4, none⟩ = some (.int .i64 imm) ∧ w'.cell? ⟨g1, 5, none⟩ = some (.bool aq) ∧ w'.cell? ⟨g1, 6, none⟩ = some (.bool rl) ∧ w'.cell? ⟨g1, 7, none⟩ = some (.int .i64 pred) ∧ w'.cell? ⟨g1, 8, none⟩ = some (.int .i64 succ) ∧ w'.cell? ⟨g3, 0, none⟩ = some (.int .i64 op) ∧ w'.cell? ⟨g3, 1, none⟩ = some (.int .i64 0) ∧ w'.cell? ⟨g3, 2, none⟩ = some (.int .i64 rs1) ∧ w'.cell? ⟨g3, 3, none⟩ = some (.int .i64 0) ∧ w'.cell? ⟨g3, 4, none⟩ = some (.int .i64 imm) ∧ w'.cell? ⟨g3, 5, none⟩ = some (.bool aq) ∧ w'.cell? ⟨g3, 6, none⟩ = some (.bool rl) ∧ w'.cell? ⟨g3, 7, none⟩ = some (.int .i64 pred) ∧ w'.cell? ⟨g3, 8, none⟩ = some (.int .i64 succ))
      (first | (exact ⟨by assumption, by assumption, by assumption, by assumption, by assumption, by assumption, by assumption, by assumption, by assumption, by assumption, by assumption, by assumption, by assumption, by assumption, by assumption, by assumption, by assumption, by assumption, by assumption⟩) | (exact ⟨T2.drew (by assumption), by assumption, by assumption, by assumption, by assumption, by assumption, by assumption, by assumption, by assumption, by assumption, by assumption, by assumption, by assumption, by assumption, by assumption, by assumption, by assumption, by assumption, by assumption⟩) | (refine ⟨?_, ?_, ?_, ?_, ?_, ?_, ?_, ?_, ?_, ?_, ?_, ?_, ?_, ?_, ?_, ?_, ?_, ?_, ?_⟩ <;> go_keep))
      (first
        | (go_at_call 15; refine (KD _ ?_).mono ?_; (first | assumption | exact T2.drew (by assumption)); rintro e w' ⟨rfl, hJ2, b0, b1, b2, b3, b4, b5, b6, b7, b8, d0, d1, d2, d3, d4, d5, d6, d7, d8⟩))
    all_goals go_wp2
    all_goals go_ret
    all_goals refine ⟨rfl, ?_⟩
    all_goals first | exact Below.mono (T2.bw (by assumption)) (Nat.le_refl _) | exact (by assumption : T2 W g1 g3 _ _ _).1
  case false.true.true =>
    have heq := fun w => run_eql_same (P := Tryd.prog) (xs := insCells ⟨op, 0, rs1, rs2, imm, aq, rl, pred, succ⟩) w 29 (by kernel_rfl) (by kernel_rfl) (by kernel_rfl)
    unfold insCells at heq
    simp only at heq
    have HE := Lib.hid heq
    clear heq
    go_enter Tryd.func5, Tryd.ntmps5
    go_upto_region 1 with (fail)
    generalize W.alloc (.cells _ 29) = w1 at *
    obtain ⟨g1, hg1⟩ : ∃ g, W.heap.size = g := ⟨_, rfl⟩
    have HN' : Blk (insCells ⟨op, rd, rs1, rs2, imm, aq, rl, pred, succ⟩) 29 g1 w1 := by rw [← hg1]; exact HN
    rw [hg1]
    have HG := Lib.hid hg1
    clear hg1 HN
    go_upto_region 4 with (first
      | (go_at_call 7; refine (L2 _ HW).mono ?_; rintro e w2 ⟨rfl, hb⟩; have HB2 := HW.on hb; have HN2 := HN'.on hb; simp only [insCells] at HN2; clear hb)
      | (with_reducible refine load_blk (o := ⟨some 6, _, _, _, _, _⟩) rfl 29 (.tmp 1) rfl HN2 rfl Tryd.underlying29 rfl (by kernel_rfl) ?_))
    have HJ : T2 W g1 w2.heap.size ⟨op, rd, rs1, rs2, imm, aq, rl, pred, succ⟩ ⟨op, rd, rs1, rs2, imm, aq, rl, pred, succ⟩ (w2.alloc (.cells (insCells ⟨op, rd, rs1, rs2, imm, aq, rl, pred, succ⟩) 29)) := ⟨HB2.new _, Blk.alloc HN2 _, Blk.new _ _ _, Below.size HB2, Nat.ne_of_lt HN2.lt⟩
    simp only [insCells] at HJ
    generalize w2.alloc (.cells _ 29) = w5 at *
    obtain ⟨g3, hg3⟩ : ∃ g, w2.heap.size = g := ⟨_, rfl⟩
    rw [hg3] at HJ ⊢
    obtain ⟨c0, c1, c2, c3, f1, f2, f3⟩ := HJ.facts
    clear hg3 HN2 HB2 HN' HW
    go_upto_region 10 with (first
      | (go_at_call 12; (first | ((with_reducible refine (KW _ HJ.bw).mono ?_); rintro e w6 ⟨rfl, hx, hq⟩; have HJ' := HJ.on hq) | ((with_reducible refine (KW _ (HJ.s1 _).bw).mono ?_); rintro e w6 ⟨rfl, hx, hq⟩; have HJ' := (HJ.s1 _).on hq) | ((with_reducible refine (KW _ (HJ.s2 _).bw).mono ?_); rintro e w6 ⟨rfl, hx, hq⟩; have HJ' := (HJ.s2 _).on hq)); clear HJ hx hq; have HJ := HJ'; clear HJ'; obtain ⟨c0, c1, c2, c3, f1, f2, f3⟩ := HJ.facts)
      | (go_at_call 13; (first | ((with_reducible refine (KF _ HJ.bw).mono ?_); rintro e w6 ⟨rfl, hx, hq⟩; have HJ' := HJ.on hq) | ((with_reducible refine (KF _ (HJ.s1 _).bw).mono ?_); rintro e w6 ⟨rfl, hx, hq⟩; have HJ' := (HJ.s1 _).on hq) | ((with_reducible refine (KF _ (HJ.s2 _).bw).mono ?_); rintro e w6 ⟨rfl, hx, hq⟩; have HJ' := (HJ.s2 _).on hq)); clear HJ hx hq; have HJ := HJ'; clear HJ'; obtain ⟨c0, c1, c2, c3, f1, f2, f3⟩ := HJ.facts)
      | (go_at_call 14; (first | ((with_reducible refine (KS _ HJ.bw).mono ?_); rintro e w6 ⟨rfl, hx, hq⟩; have HJ' := HJ.on hq) | ((with_reducible refine (KS _ (HJ.s1 _).bw).mono ?_); rintro e w6 ⟨rfl, hx, hq⟩; have HJ' := (HJ.s1 _).on hq) | ((with_reducible refine (KS _ (HJ.s2 _).bw).mono ?_); rintro e w6 ⟨rfl, hx, hq⟩; have HJ' := (HJ.s2 _).on hq)); clear HJ hx hq; have HJ := HJ'; clear HJ'; obtain ⟨c0, c1, c2, c3, f1, f2, f3⟩ := HJ.facts))
    have HF : T2 W g1 g3 ⟨op, rd, rs1, rs2, imm, aq, rl, pred, succ⟩ ⟨op, 0, rs1, rs2, imm, aq, rl, pred, succ⟩ _ := HJ
    have HF2 := HF
    obtain ⟨hb9, hi9, hk9, hs9, hn9⟩ := HF
    have hi8 := C9.of hi9
    have hk8 := C9.of hk9
    have KD : ∀ w, T2 W g1 g3 ⟨op, rd, rs1, rs2, imm, aq, rl, pred, succ⟩ ⟨op, 0, rs1, rs2, imm, aq, rl, pred, succ⟩ w → Calls Tryd.prog 15 #[.agg #[.int .i64 op, .int .i64 rd, .int .i64 rs1, .int .i64 rs2, .int .i64 imm, .bool aq, .bool rl, .int .i64 pred, .int .i64 succ]] w fun e w' =>
        e = .returned (.agg #[.int .i64 op, .int .i64 0, .int .i64 rs1, .int .i64 rs2, .int .i64 imm, .bool aq, .bool rl, .int .i64 pred, .int .i64 succ]) ∧ T2 W g1 g3 ⟨op, rd, rs1, rs2, imm, aq, rl, pred, succ⟩ ⟨op, 0, rs1, rs2, imm, aq, rl, pred, succ⟩ w' ∧ w'.cell? ⟨g1, 0, none⟩ = some (.int .i64 op) ∧ w'.cell? ⟨g1, 1, none⟩ = some (.int .i64 rd) ∧ w'.cell? ⟨g1, 2, none⟩ = some (.int .i64 rs1) ∧ w'.cell? ⟨g1, 3, none⟩ = some (.int .i64 rs2) ∧ w'.cell? ⟨g1, 4, none⟩ = some (.int .i64 imm) ∧ w'.cell? ⟨g1, 5, none⟩ = some (.bool aq) ∧ w'.cell? ⟨g1, 6, none⟩ = some (.bool rl) ∧ w'.cell? ⟨g1, 7, none⟩ = some (.int .i64 pred) ∧ w'.cell? ⟨g1, 8, none⟩ = some (.int .i64 succ) ∧ w'.cell? ⟨g3, 0, none⟩ = some (.int .i64 op) ∧ w'.cell? ⟨g3, 1, none⟩ = some (.int .i64 0) ∧ w'.cell? ⟨g3, 2, none⟩ = some (.int .i64 rs1) ∧ w'.cell? ⟨g3, 3, none⟩ = some (.int .i64 rs2) ∧ w'.cell? ⟨g3, 4, none⟩ = some (.int .i64 imm) ∧ w'.cell? ⟨g3, 5, none⟩ = some (.bool aq) ∧ w'.cell? ⟨g3, 6, none⟩ = some (.bool rl) ∧ w'.cell? ⟨g3, 7, none⟩ = some (.int .i64 pred) ∧ w'.cell? ⟨g3, 8, none⟩ = some (.int .i64 succ) :=
      fun w h => (KC w h.bw).mono fun e w' hh => by
        obtain ⟨he, hbw, hq⟩ := hh
        have h' := h.on hq
        obtain ⟨a0, a1, a2, a3, a4, a5, a6, a7, a8⟩ := C9.of h'.2.1
        exact ⟨he, h', a0, a1, a2, a3, a4, a5, a6, a7, a8, C9.of h'.2.2.1⟩
    generalize w6 = w9 at *
    obtain ⟨a0, a1, a2, a3, a4, a5, a6, a7, a8⟩ := hi8
    obtain ⟨k0, k1, k2, k3, k4, k5, k6, k7, k8⟩ := hk8
    simp only at a0 a1 a2 a3 a4 a5 a6 a7 a8 k0 k1 k2 k3 k4 k5 k6 k7 k8
    have heq := HE.out
    clear KC KW KF KS L L2 hb9 hi9 hk9
    go_region_held3 (fun w' => T2 W g1 g3 ⟨op, rd, rs1, rs2, imm, aq, rl, pred, succ⟩ ⟨op, 0, rs1, rs2, imm, aq, rl, pred, succ⟩ w' ∧ w'.cell? ⟨g1, 0, none⟩ = some (.int .i64 op) ∧ w'.cell? ⟨g1, 1, none⟩ = some (.int .i64 rd) ∧ w'.cell? ⟨g1, 2, none⟩ = some (.int .i64 rs1) ∧ w'.cell? ⟨g1, 3, none⟩ = some (.int .i64 rs2) ∧ w'.cell? ⟨g1, 4, none⟩ = some (.int .i64 imm) ∧ w'.cell? ⟨g1, 5, none⟩ = some (.bool aq) ∧ w'.cell? ⟨g1, 6, none⟩ = some (.bool rl) ∧ w'.cell? ⟨g1, 7, none⟩ = some (.int .i64 pred) ∧ w'.cell? ⟨g1, 8, none⟩ = some (.int .i64 succ) ∧ w'.cell? ⟨g3, 0, none⟩ = some (.int .i64 op) ∧ w'.cell? ⟨g3, 1, none⟩ = some (.int .i64 0) ∧ w'.cell? ⟨g3, 2, none⟩ = some (.int .i64 rs1) ∧ w'.cell? ⟨g3, 3, none⟩ = some (.int .i64 rs2) ∧ w'.cell? ⟨g3, 4, none⟩ = some (.int .i64 imm) ∧ w'.cell? ⟨g3, 5, none⟩ = some (.bool aq) ∧ w'.cell? ⟨g3, 6, none⟩ = some (.bool rl) ∧ w'.cell? ⟨g3, 7, none⟩ = some (.int .i64 pred) ∧ w'.cell? ⟨g3, 8, none⟩ = some (.int .i64 succ))
      (first | (exact ⟨by assumption, by assumption, by assumption, by assumption, by assumption, by assumption, by assumption, by assumption, by assumption, by assumption, by assumption, by assumption, by assumption, by assumption, by assumption, by assumption, by assumption, by assumption, by assumption⟩) | (exact ⟨T2.drew (by assumption), by assumption, by assumption, by assumption, by assumption, by assumption, by assumption, by assumption, by assumption, by assumption, by assumption, by assumption, by assumption, by assumption, by assumption, by assumption, by assumption, by assumption, by assumption⟩) | (refine ⟨?_, ?_, ?_, ?_, ?_, ?_, ?_, ?_, ?_, ?_, ?_, ?_, ?_, ?_, ?_, ?_, ?_, ?_, ?_⟩ <;> go_keep))
      (first
        | (go_at_call 15; refine (KD _ ?_).mono ?_; (first | assumption | exact T2.drew (by assumption)); rintro e w' ⟨rfl, hJ2, b0, b1, b2, b3, b4, b5, b6, b7, b8, d0, d1, d2, d3, d4, d5, d6, d7, d8⟩))
    all_goals go_wp2
    all_goals go_ret
    all_goals refine ⟨rfl, ?_⟩
    all_goals first | exact Below.mono (T2.bw (by assumption)) (Nat.le_refl _) | exact (by assumption : T2 W g1 g3 _ _ _).1
  case true.false.false =>
    have heq := fun w => run_eql_same (P := Tryd.prog) (xs := insCells ⟨op, rd, 0, 0, imm, aq, rl, pred, succ⟩) w 29 (by kernel_rfl) (by kernel_rfl) (by kernel_rfl)
    unfold insCells at heq
    simp only at heq
    have HE := Lib.hid heq
    clear heq
    go_enter Tryd.func5, Tryd.ntmps5
    go_upto_region 1 with (fail)
    generalize W.alloc (.cells _ 29) = w1 at *
    obtain ⟨g1, hg1⟩ : ∃ g, W.heap.size = g := ⟨_, rfl⟩
    have HN' : Blk (insCells ⟨op, rd, rs1, rs2, imm, aq, rl, pred, succ⟩) 29 g1 w1 := by rw [← hg1]; exact HN
    rw [hg1]
    have HG := Lib.hid hg1
    clear hg1 HN
    go_upto_region 4 with (first
      | (go_at_call 7; refine (L2 _ HW).mono ?_; rintro e w2 ⟨rfl, hb⟩; have HB2 := HW.on hb; have HN2 := HN'.on hb; simp only [insCells] at HN2; clear hb)
      | (with_reducible refine load_blk (o := ⟨some 6, _, _, _, _, _⟩) rfl 29 (.tmp 1) rfl HN2 rfl Tryd.underlying29 rfl (by kernel_rfl) ?_))
    have HJ : T2 W g1 w2.heap.size ⟨op, rd, rs1, rs2, imm, aq, rl, pred, succ⟩ ⟨op, rd, rs1, rs2, imm, aq, rl, pred, succ⟩ (w2.alloc (.cells (insCells ⟨op, rd, rs1, rs2, imm, aq, rl, pred, succ⟩) 29)) := ⟨HB2.new _, Blk.alloc HN2 _, Blk.new _ _ _, Below.size HB2, Nat.ne_of_lt HN2.lt⟩
    simp only [insCells] at HJ
    generalize w2.alloc (.cells _ 29) = w5 at *
    obtain ⟨g3, hg3⟩ : ∃ g, w2.heap.size = g := ⟨_, rfl⟩
    rw [hg3] at HJ ⊢
    obtain ⟨c0, c1, c2, c3, f1, f2, f3⟩ := HJ.facts
    clear hg3 HN2 HB2 HN' HW
    go_upto_region 10 with (first
      | (go_at_call 12; (first | ((with_reducible refine (KW _ HJ.bw).mono ?_); rintro e w6 ⟨rfl, hx, hq⟩; have HJ' := HJ.on hq) | ((with_reducible refine (KW _ (HJ.s1 _).bw).mono ?_); rintro e w6 ⟨rfl, hx, hq⟩; have HJ' := (HJ.s1 _).on hq) | ((with_reducible refine (KW _ (HJ.s2 _).bw).mono ?_); rintro e w6 ⟨rfl, hx, hq⟩; have HJ' := (HJ.s2 _).on hq)); clear HJ hx hq; have HJ := HJ'; clear HJ'; obtain ⟨c0, c1, c2, c3, f1, f2, f3⟩ := HJ.facts)
      | (go_at_call 13; (first | ((with_reducible refine (KF _ HJ.bw).mono ?_); rintro e w6 ⟨rfl, hx, hq⟩; have HJ' := HJ.on hq) | ((with_reducible refine (KF _ (HJ.s1 _).bw).mono ?_); rintro e w6 ⟨rfl, hx, hq⟩; have HJ' := (HJ.s1 _).on hq) | ((with_reducible refine (KF _ (HJ.s2 _).bw).mono ?_); rintro e w6 ⟨rfl, hx, hq⟩; have HJ' := (HJ.s2 _).on hq)); clear HJ hx hq; have HJ := HJ'; clear HJ'; obtain ⟨c0, c1, c2, c3, f1, f2, f3⟩ := HJ.facts)
      | (go_at_call 14; (first | ((with_reducible refine (KS _ HJ.bw).mono ?_); rintro e w6 ⟨rfl, hx, hq⟩; have HJ' := HJ.on hq) | ((with_reducible refine (KS _ (HJ.s1 _).bw).mono ?_); rintro e w6 ⟨rfl, hx, hq⟩; have HJ' := (HJ.s1 _).on hq) | ((with_reducible refine (KS _ (HJ.s2 _).bw).mono ?_); rintro e w6 ⟨rfl, hx, hq⟩; have HJ' := (HJ.s2 _).on hq)); clear HJ hx hq; have HJ := HJ'; clear HJ'; obtain ⟨c0, c1, c2, c3, f1, f2, f3⟩ := HJ.facts))
    have HF : T2 W g1 g3 ⟨op, rd, rs1, rs2, imm, aq, rl, pred, succ⟩ ⟨op, rd, 0, 0, imm, aq, rl, pred, succ⟩ _ := HJ.s3 0
    have HF2 := HF
    obtain ⟨hb9, hi9, hk9, hs9, hn9⟩ := HF
    have hi8 := C9.of hi9
    have hk8 := C9.of hk9
    have KD : ∀ w, T2 W g1 g3 ⟨op, rd, rs1, rs2, imm, aq, rl, pred, succ⟩ ⟨op, rd, 0, 0, imm, aq, rl, pred, succ⟩ w → Calls Tryd.prog 15 #[.agg #[.int .i64 op, .int .i64 rd, .int .i64 rs1, .int .i64 rs2, .int .i64 imm, .bool aq, .bool rl, .int .i64 pred, .int .i64 succ]] w fun e w' =>
        e = .returned (.agg #[.int .i64 op, .int .i64 rd, .int .i64 0, .int .i64 0, .int .i64 imm, .bool aq, .bool rl, .int .i64 pred, .int .i64 succ]) ∧ T2 W g1 g3 ⟨op, rd, rs1, rs2, imm, aq, rl, pred, succ⟩ ⟨op, rd, 0, 0, imm, aq, rl, pred, succ⟩ w' ∧ w'.cell? ⟨g1, 0, none⟩ = some (.int .i64 op) ∧ w'.cell? ⟨g1, 1, none⟩ = some (.int .i64 rd) ∧ w'.cell? ⟨g1, 2, none⟩ = some (.int .i64 rs1) ∧ w'.cell? ⟨g1, 3, none⟩ = some (.int .i64 rs2) ∧ w'.cell? ⟨g1, 4, none⟩ = some (.int .i64 imm) ∧ w'.cell? ⟨g1, 5, none⟩ = some (.bool aq) ∧ w'.cell? ⟨g1, 6, none⟩ = some (.bool rl) ∧ w'.cell? ⟨g1, 7, none⟩ = some (.int .i64 pred) ∧ w'.cell? ⟨g1, 8, none⟩ = some (.int .i64 succ) ∧ w'.cell? ⟨g3, 0, none⟩ = some (.int .i64 op) ∧ w'.cell? ⟨g3, 1, none⟩ = some (.int .i64 rd) ∧ w'.cell? ⟨g3, 2, none⟩ = some (.int .i64 0) ∧ w'.cell? ⟨g3, 3, none⟩ = some (.int .i64 0) ∧ w'.cell? ⟨g3, 4, none⟩ = some (.int .i64 imm) ∧ w'.cell? ⟨g3, 5, none⟩ = some (.bool aq) ∧ w'.cell? ⟨g3, 6, none⟩ = some (.bool rl) ∧ w'.cell? ⟨g3, 7, none⟩ = some (.int .i64 pred) ∧ w'.cell? ⟨g3, 8, none⟩ = some (.int .i64 succ) :=
      fun w h => (KC w h.bw).mono fun e w' hh => by
        obtain ⟨he, hbw, hq⟩ := hh
        have h' := h.on hq
        obtain ⟨a0, a1, a2, a3, a4, a5, a6, a7, a8⟩ := C9.of h'.2.1
        exact ⟨he, h', a0, a1, a2, a3, a4, a5, a6, a7, a8, C9.of h'.2.2.1⟩
    generalize (w6.setCell ⟨g3, 3, none⟩ (.int .i64 0)) = w9 at *
    obtain ⟨a0, a1, a2, a3, a4, a5, a6, a7, a8⟩ := hi8
    obtain ⟨k0, k1, k2, k3, k4, k5, k6, k7, k8⟩ := hk8
    simp only at a0 a1 a2 a3 a4 a5 a6 a7 a8 k0 k1 k2 k3 k4 k5 k6 k7 k8
    have heq := HE.out
    clear KC KW KF KS L L2 hb9 hi9 hk9
    go_region_held3 (fun w' => T2 W g1 g3 ⟨op, rd, rs1, rs2, imm, aq, rl, pred, succ⟩ ⟨op, rd, 0, 0, imm, aq, rl, pred, succ⟩ w' ∧ w'.cell? ⟨g1, 0, none⟩ = some (.int .i64 op) ∧ w'.cell? ⟨g1, 1, none⟩ = some (.int .i64 rd) ∧ w'.cell? ⟨g1, 2, none⟩ = some (.int .i64 rs1) ∧ w'.cell? ⟨g1, 3, none⟩ = some (.int .i64 rs2) ∧ w'.cell? ⟨g1, 4, none⟩ = some (.int .i64 imm) ∧ w'.cell? ⟨g1, 5, none⟩ = some (.bool aq) ∧ w'.cell? ⟨g1, 6, none⟩ = some (.bool rl) ∧ w'.cell? ⟨g1, 7, none⟩ = some (.int .i64 pred) ∧ w'.cell? ⟨g1, 8, none⟩ = some (.int .i64 succ) ∧ w'.cell? ⟨g3, 0, none⟩ = some (.int .i64 op) ∧ w'.cell? ⟨g3, 1, none⟩ = some (.int .i64 rd) ∧ w'.cell? ⟨g3, 2, none⟩ = some (.int .i64 0) ∧ w'.cell? ⟨g3, 3, none⟩ = some (.int .i64 0) ∧ w'.cell? ⟨g3, 4, none⟩ = some (.int .i64 imm) ∧ w'.cell? ⟨g3, 5, none⟩ = some (.bool aq) ∧ w'.cell? ⟨g3, 6, none⟩ = some (.bool rl) ∧ w'.cell? ⟨g3, 7, none⟩ = some (.int .i64 pred) ∧ w'.cell? ⟨g3, 8, none⟩ = some (.int .i64 succ))
      (first | (exact ⟨by assumption, by assumption, by assumption, by assumption, by assumption, by assumption, by assumption, by assumption, by assumption, by assumption, by assumption, by assumption, by assumption, by assumption, by assumption, by assumption, by assumption, by assumption, by assumption⟩) | (exact ⟨T2.drew (by assumption), by assumption, by assumption, by assumption, by assumption, by assumption, by assumption, by assumption, by assumption, by assumption, by assumption, by assumption, by assumption, by assumption, by assumption, by assumption, by assumption, by assumption, by assumption⟩) | (refine ⟨?_, ?_, ?_, ?_, ?_, ?_, ?_, ?_, ?_, ?_, ?_, ?_, ?_, ?_, ?_, ?_, ?_, ?_, ?_⟩ <;> go_keep))
      (first
        | (go_at_call 15; refine (KD _ ?_).mono ?_; (first | assumption | exact T2.drew (by assumption)); rintro e w' ⟨rfl, hJ2, b0, b1, b2, b3, b4, b5, b6, b7, b8, d0, d1, d2, d3, d4, d5, d6, d7, d8⟩))
    all_goals go_wp2
    all_goals go_ret
    all_goals refine ⟨rfl, ?_⟩
    all_goals first | exact Below.mono (T2.bw (by assumption)) (Nat.le_refl _) | exact (by assumption : T2 W g1 g3 _ _ _).1
  case true.false.true =>
    have heq := fun w => run_eql_same (P := Tryd.prog) (xs := insCells ⟨op, rd, 0, rs2, imm, aq, rl, pred, succ⟩) w 29 (by kernel_rfl) (by kernel_rfl) (by kernel_rfl)
    unfold insCells at heq
    simp only at heq
    have HE := Lib.hid heq
    clear heq
    go_enter Tryd.func5, Tryd.ntmps5
    go_upto_region 1 with (fail)
    generalize W.alloc (.cells _ 29) = w1 at *
    obtain ⟨g1, hg1⟩ : ∃ g, W.heap.size = g := ⟨_, rfl⟩
    have HN' : Blk (insCells ⟨op, rd, rs1, rs2, imm, aq, rl, pred, succ⟩) 29 g1 w1 := by rw [← hg1]; exact HN
    rw [hg1]
    have HG := Lib.hid hg1
    clear hg1 HN
    go_upto_region 4 with (first
      | (go_at_call 7; refine (L2 _ HW).mono ?_; rintro e w2 ⟨rfl, hb⟩; have HB2 := HW.on hb; have HN2 := HN'.on hb; simp only [insCells] at HN2; clear hb)
      | (with_reducible refine load_blk (o := ⟨some 6, _, _, _, _, _⟩) rfl 29 (.tmp 1) rfl HN2 rfl Tryd.underlying29 rfl (by kernel_rfl) ?_))
    have HJ : T2 W g1 w2.heap.size ⟨op, rd, rs1, rs2, imm, aq, rl, pred, succ⟩ ⟨op, rd, rs1, rs2, imm, aq, rl, pred, succ⟩ (w2.alloc (.cells (insCells ⟨op, rd, rs1, rs2, imm, aq, rl, pred, succ⟩) 29)) := ⟨HB2.new _, Blk.alloc HN2 _, Blk.new _ _ _, Below.size HB2, Nat.ne_of_lt HN2.lt⟩
    simp only [insCells] at HJ
    generalize w2.alloc (.cells _ 29) = w5 at *
    obtain ⟨g3, hg3⟩ : ∃ g, w2.heap.size = g := ⟨_, rfl⟩
    rw [hg3] at HJ ⊢
    obtain ⟨c0, c1, c2, c3, f1, f2, f3⟩ := HJ.facts
    clear hg3 HN2 HB2 HN' HW
    go_upto_region 10 with (first
      | (go_at_call 12; (first | ((with_reducible refine (KW _ HJ.bw).mono ?_); rintro e w6 ⟨rfl, hx, hq⟩; have HJ' := HJ.on hq) | ((with_reducible refine (KW _ (HJ.s1 _).bw).mono ?_); rintro e w6 ⟨rfl, hx, hq⟩; have HJ' := (HJ.s1 _).on hq) | ((with_reducible refine (KW _ (HJ.s2 _).bw).mono ?_); rintro e w6 ⟨rfl, hx, hq⟩; have HJ' := (HJ.s2 _).on hq)); clear HJ hx hq; have HJ := HJ'; clear HJ'; obtain ⟨c0, c1, c2, c3, f1, f2, f3⟩ := HJ.facts)
      | (go_at_call 13; (first | ((with_reducible refine (KF _ HJ.bw).mono ?_); rintro e w6 ⟨rfl, hx, hq⟩; have HJ' := HJ.on hq) | ((with_reducible refine (KF _ (HJ.s1 _).bw).mono ?_); rintro e w6 ⟨rfl, hx, hq⟩; have HJ' := (HJ.s1 _).on hq) | ((with_reducible refine (KF _ (HJ.s2 _).bw).mono ?_); rintro e w6 ⟨rfl, hx, hq⟩; have HJ' := (HJ.s2 _).on hq)); clear HJ hx hq; have HJ := HJ'; clear HJ'; obtain ⟨c0, c1, c2, c3, f1, f2, f3⟩ := HJ.facts)
      | (go_at_call 14; (first | ((with_reducible refine (KS _ HJ.bw).mono ?_); rintro e w6 ⟨rfl, hx, hq⟩; have HJ' := HJ.on hq) | ((with_reducible refine (KS _ (HJ.s1 _).bw).mono ?_); rintro e w6 ⟨rfl, hx, hq⟩; have HJ' := (HJ.s1 _).on hq) | ((with_reducible refine (KS _ (HJ.s2 _).bw).mono ?_); rintro e w6 ⟨rfl, hx, hq⟩; have HJ' := (HJ.s2 _).on hq)); clear HJ hx hq; have HJ := HJ'; clear HJ'; obtain ⟨c0, c1, c2, c3, f1, f2, f3⟩ := HJ.facts))
    have HF : T2 W g1 g3 ⟨op, rd, rs1, rs2, imm, aq, rl, pred, succ⟩ ⟨op, rd, 0, rs2, imm, aq, rl, pred, succ⟩ _ := HJ
    have HF2 := HF
    obtain ⟨hb9, hi9, hk9, hs9, hn9⟩ := HF
    have hi8 := C9.of hi9
    have hk8 := C9.of hk9
    have KD : ∀ w, T2 W g1 g3 ⟨op, rd, rs1, rs2, imm, aq, rl, pred, succ⟩ ⟨op, rd, 0, rs2, imm, aq, rl, pred, succ⟩ w → Calls Tryd.prog 15 #[.agg #[.int .i64 op, .int .i64 rd, .int .i64 rs1, .int .i64 rs2, .int .i64 imm, .bool aq, .bool rl, .int .i64 pred, .int .i64 succ]] w fun e w' =>
        e = .returned (.agg #[.int .i64 op, .int .i64 rd, .int .i64 0, .int .i64 rs2, .int .i64 imm, .bool aq, .bool rl, .int .i64 pred, .int .i64 succ]) ∧ T2 W g1 g3 ⟨op, rd, rs1, rs2, imm, aq, rl, pred, succ⟩ ⟨op, rd, 0, rs2, imm, aq, rl, pred, succ⟩ w' ∧ w'.cell? ⟨g1, 0, none⟩ = some (.int .i64 op) ∧ w'.cell? ⟨g1, 1, none⟩ = some (.int .i64 rd) ∧ w'.cell? ⟨g1, 2, none⟩ = some (.int .i64 rs1) ∧ w'.cell? ⟨g1, 3, none⟩ = some (.int .i64 rs2) ∧ w'.cell? ⟨g1, 4, none⟩ = some (.int .i64 imm) ∧ w'.cell? ⟨g1, 5, none⟩ = some (.bool aq) ∧ w'.cell? ⟨g1, 6, none⟩ = some (.bool rl) ∧ w'.cell? ⟨g1, 7, none⟩ = some (.int .i64 pred) ∧ w'.cell? ⟨g1, 8, none⟩ = some (.int .i64 succ) ∧ w'.cell? ⟨g3, 0, none⟩ = some (.int .i64 op) ∧ w'.cell? ⟨g3, 1, none⟩ = some (.int .i64 rd) ∧ w'.cell? ⟨g3, 2, none⟩ = some (.int .i64 0) ∧ w'.cell? ⟨g3, 3, none⟩ = some (.int .i64 rs2) ∧ w'.cell? ⟨g3, 4, none⟩ = some (.int .i64 imm) ∧ w'.cell? ⟨g3, 5, none⟩ = some (.bool aq) ∧ w'.cell? ⟨g3, 6, none⟩ = some (.bool rl) ∧ w'.cell? ⟨g3, 7, none⟩ = some (.int .i64 pred) ∧ w'.cell? ⟨g3, 8, none⟩ = some (.int .i64 succ) :=
      fun w h => (KC w h.bw).mono fun e w' hh => by
        obtain ⟨he, hbw, hq⟩ := hh
        have h' := h.on hq
        obtain ⟨a0, a1, a2, a3, a4, a5, a6, a7, a8⟩ := C9.of h'.2.1
        exact ⟨he, h', a0, a1, a2, a3, a4, a5, a6, a7, a8, C9.of h'.2.2.1⟩
    generalize w6 = w9 at *
    obtain ⟨a0, a1, a2, a3, a4, a5, a6, a7, a8⟩ := hi8
    obtain ⟨k0, k1, k2, k3, k4, k5, k6, k7, k8⟩ := hk8
    simp only at a0 a1 a2 a3 a4 a5 a6 a7 a8 k0 k1 k2 k3 k4 k5 k6 k7 k8
    have heq := HE.out
    clear KC KW KF KS L L2 hb9 hi9 hk9
    go_region_held3 (fun w' => T2 W g1 g3 ⟨op, rd, rs1, rs2, imm, aq, rl, pred, succ⟩ ⟨op, rd, 0, rs2, imm, aq, rl, pred, succ⟩ w' ∧ w'.cell? ⟨g1, 0, none⟩ = some (.int .i64 op) ∧ w'.cell? ⟨g1, 1, none⟩ = some (.int .i64 rd) ∧ w'.cell? ⟨g1, 2, none⟩ = some (.int .i64 rs1) ∧ w'.cell? ⟨g1, 3, none⟩ = some (.int .i64 rs2) ∧ w'.cell? ⟨g1, 4, none⟩ = some (.int .i64 imm) ∧ w'.cell? ⟨g1, 5, none⟩ = some (.bool aq) ∧ w'.cell? ⟨g1, 6, none⟩ = some (.bool rl) ∧ w'.cell? ⟨g1, 7, none⟩ = some (.int .i64 pred) ∧ w'.cell? ⟨g1, 8, none⟩ = some (.int .i64 succ) ∧ w'.cell? ⟨g3, 0, none⟩ = some (.int .i64 op) ∧ w'.cell? ⟨g3, 1, none⟩ = some (.int .i64 rd) ∧ w'.cell? ⟨g3, 2, none⟩ = some (.int .i64 0) ∧ w'.cell? ⟨g3, 3, none⟩ = some (.int .i64 rs2) ∧ w'.cell? ⟨g3, 4, none⟩ = some (.int .i64 imm) ∧ w'.cell? ⟨g3, 5, none⟩ = some (.bool aq) ∧ w'.cell? ⟨g3, 6, none⟩ = some (.bool rl) ∧ w'.cell? ⟨g3, 7, none⟩ = some (.int .i64 pred) ∧ w'.cell? ⟨g3, 8, none⟩ = some (.int .i64 succ))
      (first | (exact ⟨by assumption, by assumption, by assumption, by assumption, by assumption, by assumption, by assumption, by assumption, by assumption, by assumption, by assumption, by assumption, by assumption, by assumption, by assumption, by assumption, by assumption, by assumption, by assumption⟩) | (exact ⟨T2.drew (by assumption), by assumption, by assumption, by assumption, by assumption, by assumption, by assumption, by assumption, by assumption, by assumption, by assumption, by assumption, by assumption, by assumption, by assumption, by assumption, by assumption, by assumption, by assumption⟩) | (refine ⟨?_, ?_, ?_, ?_, ?_, ?_, ?_, ?_, ?_, ?_, ?_, ?_, ?_, ?_, ?_, ?_, ?_, ?_, ?_⟩ <;> go_keep))
      (first
        | (go_at_call 15; refine (KD _ ?_).mono ?_; (first | assumption | exact T2.drew (by assumption)); rintro e w' ⟨rfl, hJ2, b0, b1, b2, b3, b4, b5, b6, b7, b8, d0, d1, d2, d3, d4, d5, d6, d7, d8⟩))
    all_goals go_wp2
    all_goals go_ret
    all_goals refine ⟨rfl, ?_⟩
    all_goals first | exact Below.mono (T2.bw (by assumption)) (Nat.le_refl _) | exact (by assumption : T2 W g1 g3 _ _ _).1
  case true.true.false =>
    have heq := fun w => run_eql_same (P := Tryd.prog) (xs := insCells ⟨op, rd, rs1, 0, imm, aq, rl, pred, succ⟩) w 29 (by kernel_rfl) (by kernel_rfl) (by kernel_rfl)
    unfold insCells at heq
    simp only at heq
    have HE := Lib.hid heq
    clear heq
    go_enter Tryd.func5, Tryd.ntmps5
    go_upto_region 1 with (fail)
    generalize W.alloc (.cells _ 29) = w1 at *
    obtain ⟨g1, hg1⟩ : ∃ g, W.heap.size = g := ⟨_, rfl⟩
    have HN' : Blk (insCells ⟨op, rd, rs1, rs2, imm, aq, rl, pred, succ⟩) 29 g1 w1 := by rw [← hg1]; exact HN
    rw [hg1]
    have HG := Lib.hid hg1
    clear hg1 HN
    go_upto_region 4 with (first
      | (go_at_call 7; refine (L2 _ HW).mono ?_; rintro e w2 ⟨rfl, hb⟩; have HB2 := HW.on hb; have HN2 := HN'.on hb; simp only [insCells] at HN2; clear hb)
      | (with_reducible refine load_blk (o := ⟨some 6, _, _, _, _, _⟩) rfl 29 (.tmp 1) rfl HN2 rfl Tryd.underlying29 rfl (by kernel_rfl) ?_))
    have HJ : T2 W g1 w2.heap.size ⟨op, rd, rs1, rs2, imm, aq, rl, pred, succ⟩ ⟨op, rd, rs1, rs2, imm, aq, rl, pred, succ⟩ (w2.alloc (.cells (insCells ⟨op, rd, rs1, rs2, imm, aq, rl, pred, succ⟩) 29)) := ⟨HB2.new _, Blk.alloc HN2 _, Blk.new _ _ _, Below.size HB2, Nat.ne_of_lt HN2.lt⟩
    simp only [insCells] at HJ
    generalize w2.alloc (.cells _ 29) = w5 at *
    obtain ⟨g3, hg3⟩ : ∃ g, w2.heap.size = g := ⟨_, rfl⟩
    rw [hg3] at HJ ⊢
    obtain ⟨c0, c1, c2, c3, f1, f2, f3⟩ := HJ.facts
    clear hg3 HN2 HB2 HN' HW
    go_upto_region 10 with (first
      | (go_at_call 12; (first | ((with_reducible refine (KW _ HJ.bw).mono ?_); rintro e w6 ⟨rfl, hx, hq⟩; have HJ' := HJ.on hq) | ((with_reducible refine (KW _ (HJ.s1 _).bw).mono ?_); rintro e w6 ⟨rfl, hx, hq⟩; have HJ' := (HJ.s1 _).on hq) | ((with_reducible refine (KW _ (HJ.s2 _).bw).mono ?_); rintro e w6 ⟨rfl, hx, hq⟩; have HJ' := (HJ.s2 _).on hq)); clear HJ hx hq; have HJ := HJ'; clear HJ'; obtain ⟨c0, c1, c2, c3, f1, f2, f3⟩ := HJ.facts)
      | (go_at_call 13; (first | ((with_reducible refine (KF _ HJ.bw).mono ?_); rintro e w6 ⟨rfl, hx, hq⟩; have HJ' := HJ.on hq) | ((with_reducible refine (KF _ (HJ.s1 _).bw).mono ?_); rintro e w6 ⟨rfl, hx, hq⟩; have HJ' := (HJ.s1 _).on hq) | ((with_reducible refine (KF _ (HJ.s2 _).bw).mono ?_); rintro e w6 ⟨rfl, hx, hq⟩; have HJ' := (HJ.s2 _).on hq)); clear HJ hx hq; have HJ := HJ'; clear HJ'; obtain ⟨c0, c1, c2, c3, f1, f2, f3⟩ := HJ.facts)
      | (go_at_call 14; (first | ((with_reducible refine (KS _ HJ.bw).mono ?_); rintro e w6 ⟨rfl, hx, hq⟩; have HJ' := HJ.on hq) | ((with_reducible refine (KS _ (HJ.s1 _).bw).mono ?_); rintro e w6 ⟨rfl, hx, hq⟩; have HJ' := (HJ.s1 _).on hq) | ((with_reducible refine (KS _ (HJ.s2 _).bw).mono ?_); rintro e w6 ⟨rfl, hx, hq⟩; have HJ' := (HJ.s2 _).on hq)); clear HJ hx hq; have HJ := HJ'; clear HJ'; obtain ⟨c0, c1, c2, c3, f1, f2, f3⟩ := HJ.facts))
    have HF : T2 W g1 g3 ⟨op, rd, rs1, rs2, imm, aq, rl, pred, succ⟩ ⟨op, rd, rs1, 0, imm, aq, rl, pred, succ⟩ _ := HJ.s3 0
    have HF2 := HF
    obtain ⟨hb9, hi9, hk9, hs9, hn9⟩ := HF
    have hi8 := C9.of hi9
    have hk8 := C9.of hk9
    have KD : ∀ w, T2 W g1 g3 ⟨op, rd, rs1, rs2, imm, aq, rl, pred, succ⟩ ⟨op, rd, rs1, 0, imm, aq, rl, pred, succ⟩ w → Calls Tryd.prog 15 #[.agg #[.int .i64 op, .int .i64 rd, .int .i64 rs1, .int .i64 rs2, .int .i64 imm, .bool aq, .bool rl, .int .i64 pred, .int .i64 succ]] w fun e w' =>
        e = .returned (.agg #[.int .i64 op, .int .i64 rd, .int .i64 rs1, .int .i64 0, .int .i64 imm, .bool aq, .bool rl, .int .i64 pred, .int .i64 succ]) ∧ T2 W g1 g3 ⟨op, rd, rs1, rs2, imm, aq, rl, pred, succ⟩ ⟨op, rd, rs1, 0, imm, aq, rl, pred, succ⟩ w' ∧ w'.cell? ⟨g1, 0, none⟩ = some (.int .i64 op) ∧ w'.cell? ⟨g1, 1, none⟩ = some (.int .i64 rd) ∧ w'.cell? ⟨g1, 2, none⟩ = some (.int .i64 rs1) ∧ w'.cell? ⟨g1, 3, none⟩ = some (.int .i64 rs2) ∧ w'.cell? ⟨g1, 4, none⟩ = some (.int .i64 imm) ∧ w'.cell? ⟨g1, 5, none⟩ = some (.bool aq) ∧ w'.cell? ⟨g1, 6, none⟩ = some (.bool rl) ∧ w'.cell? ⟨g1, 7, none⟩ = some (.int .i64 pred) ∧ w'.cell? ⟨g1, 8, none⟩ = some (.int .i64 succ) ∧ w'.cell? ⟨g3, 0, none⟩ = some (.int .i64 op) ∧ w'.cell? ⟨g3, 1, none⟩ = some (.int .i64 rd) ∧ w'.cell? ⟨g3, 2, none⟩ = some (.int .i64 rs1) ∧ w'.cell? ⟨g3, 3, none⟩ = some (.int .i64 0) ∧ w'.cell? ⟨g3, 4, none⟩ = some (.int .i64 imm) ∧ w'.cell? ⟨g3, 5, none⟩ = some (.bool aq) ∧ w'.cell? ⟨g3, 6, none⟩ = some (.bool rl) ∧ w'.cell? ⟨g3, 7, none⟩ = some (.int .i64 pred) ∧ w'.cell? ⟨g3, 8, none⟩ = some (.int .i64 succ) :=
      fun w h => (KC w h.bw).mono fun e w' hh => by
        obtain ⟨he, hbw, hq⟩ := hh
        have h' := h.on hq
        obtain ⟨a0, a1, a2, a3, a4, a5, a6, a7, a8⟩ := C9.of h'.2.1
        exact ⟨he, h', a0, a1, a2, a3, a4, a5, a6, a7, a8, C9.of h'.2.2.1⟩
    generalize (w6.setCell ⟨g3, 3, none⟩ (.int .i64 0)) = w9 at *
    obtain ⟨a0, a1, a2, a3, a4, a5, a6, a7, a8⟩ := hi8
    obtain ⟨k0, k1, k2, k3, k4, k5, k6, k7, k8⟩ := hk8
    simp only at a0 a1 a2 a3 a4 a5 a6 a7 a8 k0 k1 k2 k3 k4 k5 k6 k7 k8
    have heq := HE.out
    clear KC KW KF KS L L2 hb9 hi9 hk9
    go_region_held3 (fun w' => T2 W g1 g3 ⟨op, rd, rs1, rs2, imm, aq, rl, pred, succ⟩ ⟨op, rd, rs1, 0, imm, aq, rl, pred, succ⟩ w' ∧ w'.cell? ⟨g1, 0, none⟩ = some (.int .i64 op) ∧ w'.cell? ⟨g1, 1, none⟩ = some (.int .i64 rd) ∧ w'.cell? ⟨g1, 2, none⟩ = some (.int .i64 rs1) ∧ w'.cell? ⟨g1, 3, none⟩ = some (.int .i64 rs2) ∧ w'.cell? ⟨g1, 4, none⟩ = some (.int .i64 imm) ∧ w'.cell? ⟨g1, 5, none⟩ = some (.bool aq) ∧ w'.cell? ⟨g1, 6, none⟩ = some (.bool rl) ∧ w'.cell? ⟨g1, 7, none⟩ = some (.int .i64 pred) ∧ w'.cell? ⟨g1, 8, none⟩ = some (.int .i64 succ) ∧ w'.cell? ⟨g3, 0, none⟩ = some (.int .i64 op) ∧ w'.cell? ⟨g3, 1, none⟩ = some (.int .i64 rd) ∧ w'.cell? ⟨g3, 2, none⟩ = some (.int .i64 rs1) ∧ w'.cell? ⟨g3, 3, none⟩ = some (.int .i64 0) ∧ w'.cell? ⟨g3, 4, none⟩ = some (.int .i64 imm) ∧ w'.cell? ⟨g3, 5, none⟩ = some (.bool aq) ∧ w'.cell? ⟨g3, 6, none⟩ = some (.bool rl) ∧ w'.cell? ⟨g3, 7, none⟩ = some (.int .i64 pred) ∧ w'.cell? ⟨g3, 8, none⟩ = some (.int .i64 succ))
      (first | (exact ⟨by assumption, by assumption, by assumption, by assumption, by assumption, by assumption, by assumption, by assumption, by assumption, by assumption, by assumption, by assumption, by assumption, by assumption, by assumption, by assumption, by assumption, by assumption, by assumption⟩) | (exact ⟨T2.drew (by assumption), by assumption, by assumption, by assumption, by assumption, by assumption, by assumption, by assumption, by assumption, by assumption, by assumption, by assumption, by assumption, by assumption, by assumption, by assumption, by assumption, by assumption, by assumption⟩) | (refine ⟨?_, ?_, ?_, ?_, ?_, ?_, ?_, ?_, ?_, ?_, ?_, ?_, ?_, ?_, ?_, ?_, ?_, ?_, ?_⟩ <;> go_keep))
      (first
        | (go_at_call 15; refine (KD _ ?_).mono ?_; (first | assumption | exact T2.drew (by assumption)); rintro e w' ⟨rfl, hJ2, b0, b1, b2, b3, b4, b5, b6, b7, b8, d0, d1, d2, d3, d4, d5, d6, d7, d8⟩))
    all_goals go_wp2
    all_goals go_ret
    all_goals refine ⟨rfl, ?_⟩
    all_goals first | exact Below.mono (T2.bw (by assumption)) (Nat.le_refl _) | exact (by assumption : T2 W g1 g3 _ _ _).1
  case true.true.true =>
    have heq := fun w => run_eql_same (P := Tryd.prog) (xs := insCells ⟨op, rd, rs1, rs2, imm, aq, rl, pred, succ⟩) w 29 (by kernel_rfl) (by kernel_rfl) (by kernel_rfl)
    unfold insCells at heq
    simp only at heq
    have HE := Lib.hid heq
    clear heq
    go_enter Tryd.func5, Tryd.ntmps5
    go_upto_region 1 with (fail)
    generalize W.alloc (.cells _ 29) = w1 at *
    obtain ⟨g1, hg1⟩ : ∃ g, W.heap.size = g := ⟨_, rfl⟩
    have HN' : Blk (insCells ⟨op, rd, rs1, rs2, imm, aq, rl, pred, succ⟩) 29 g1 w1 := by rw [← hg1]; exact HN
    rw [hg1]
    have HG := Lib.hid hg1
    clear hg1 HN
    go_upto_region 4 with (first
      | (go_at_call 7; refine (L2 _ HW).mono ?_; rintro e w2 ⟨rfl, hb⟩; have HB2 := HW.on hb; have HN2 := HN'.on hb; simp only [insCells] at HN2; clear hb)
      | (with_reducible refine load_blk (o := ⟨some 6, _, _, _, _, _⟩) rfl 29 (.tmp 1) rfl HN2 rfl Tryd.underlying29 rfl (by kernel_rfl) ?_))
    have HJ : T2 W g1 w2.heap.size ⟨op, rd, rs1, rs2, imm, aq, rl, pred, succ⟩ ⟨op, rd, rs1, rs2, imm, aq, rl, pred, succ⟩ (w2.alloc (.cells (insCells ⟨op, rd, rs1, rs2, imm, aq, rl, pred, succ⟩) 29)) := ⟨HB2.new _, Blk.alloc HN2 _, Blk.new _ _ _, Below.size HB2, Nat.ne_of_lt HN2.lt⟩
    simp only [insCells] at HJ
    generalize w2.alloc (.cells _ 29) = w5 at *
    obtain ⟨g3, hg3⟩ : ∃ g, w2.heap.size = g := ⟨_, rfl⟩
    rw [hg3] at HJ ⊢
    obtain ⟨c0, c1, c2, c3, f1, f2, f3⟩ := HJ.facts
    clear hg3 HN2 HB2 HN' HW
    go_upto_region 10 with (first
      | (go_at_call 12; (first | ((with_reducible refine (KW _ HJ.bw).mono ?_); rintro e w6 ⟨rfl, hx, hq⟩; have HJ' := HJ.on hq) | ((with_reducible refine (KW _ (HJ.s1 _).bw).mono ?_); rintro e w6 ⟨rfl, hx, hq⟩; have HJ' := (HJ.s1 _).on hq) | ((with_reducible refine (KW _ (HJ.s2 _).bw).mono ?_); rintro e w6 ⟨rfl, hx, hq⟩; have HJ' := (HJ.s2 _).on hq)); clear HJ hx hq; have HJ := HJ'; clear HJ'; obtain ⟨c0, c1, c2, c3, f1, f2, f3⟩ := HJ.facts)
      | (go_at_call 13; (first | ((with_reducible refine (KF _ HJ.bw).mono ?_); rintro e w6 ⟨rfl, hx, hq⟩; have HJ' := HJ.on hq) | ((with_reducible refine (KF _ (HJ.s1 _).bw).mono ?_); rintro e w6 ⟨rfl, hx, hq⟩; have HJ' := (HJ.s1 _).on hq) | ((with_reducible refine (KF _ (HJ.s2 _).bw).mono ?_); rintro e w6 ⟨rfl, hx, hq⟩; have HJ' := (HJ.s2 _).on hq)); clear HJ hx hq; have HJ := HJ'; clear HJ'; obtain ⟨c0, c1, c2, c3, f1, f2, f3⟩ := HJ.facts)
      | (go_at_call 14; (first | ((with_reducible refine (KS _ HJ.bw).mono ?_); rintro e w6 ⟨rfl, hx, hq⟩; have HJ' := HJ.on hq) | ((with_reducible refine (KS _ (HJ.s1 _).bw).mono ?_); rintro e w6 ⟨rfl, hx, hq⟩; have HJ' := (HJ.s1 _).on hq) | ((with_reducible refine (KS _ (HJ.s2 _).bw).mono ?_); rintro e w6 ⟨rfl, hx, hq⟩; have HJ' := (HJ.s2 _).on hq)); clear HJ hx hq; have HJ := HJ'; clear HJ'; obtain ⟨c0, c1, c2, c3, f1, f2, f3⟩ := HJ.facts))
    have HF : T2 W g1 g3 ⟨op, rd, rs1, rs2, imm, aq, rl, pred, succ⟩ ⟨op, rd, rs1, rs2, imm, aq, rl, pred, succ⟩ _ := HJ
    have HF2 := HF
    obtain ⟨hb9, hi9, hk9, hs9, hn9⟩ := HF
    have hi8 := C9.of hi9
    have hk8 := C9.of hk9
    have KD : ∀ w, T2 W g1 g3 ⟨op, rd, rs1, rs2, imm, aq, rl, pred, succ⟩ ⟨op, rd, rs1, rs2, imm, aq, rl, pred, succ⟩ w → Calls Tryd.prog 15 #[.agg #[.int .i64 op, .int .i64 rd, .int .i64 rs1, .int .i64 rs2, .int .i64 imm, .bool aq, .bool rl, .int .i64 pred, .int .i64 succ]] w fun e w' =>
        e = .returned (.agg #[.int .i64 op, .int .i64 rd, .int .i64 rs1, .int .i64 rs2, .int .i64 imm, .bool aq, .bool rl, .int .i64 pred, .int .i64 succ]) ∧ T2 W g1 g3 ⟨op, rd, rs1, rs2, imm, aq, rl, pred, succ⟩ ⟨op, rd, rs1, rs2, imm, aq, rl, pred, succ⟩ w' ∧ w'.cell? ⟨g1, 0, none⟩ = some (.int .i64 op) ∧ w'.cell? ⟨g1, 1, none⟩ = some (.int .i64 rd) ∧ w'.cell? ⟨g1, 2, none⟩ = some (.int .i64 rs1) ∧ w'.cell? ⟨g1, 3, none⟩ = some (.int .i64 rs2) ∧ w'.cell? ⟨g1, 4, none⟩ = some (.int .i64 imm) ∧ w'.cell? ⟨g1, 5, none⟩ = some (.bool aq) ∧ w'.cell? ⟨g1, 6, none⟩ = some (.bool rl) ∧ w'.cell? ⟨g1, 7, none⟩ = some (.int .i64 pred) ∧ w'.cell? ⟨g1, 8, none⟩ = some (.int .i64 succ) ∧ w'.cell? ⟨g3, 0, none⟩ = some (.int .i64 op) ∧ w'.cell? ⟨g3, 1, none⟩ = some (.int .i64 rd) ∧ w'.cell? ⟨g3, 2, none⟩ = some (.int .i64 rs1) ∧ w'.cell? ⟨g3, 3, none⟩ = some (.int .i64 rs2) ∧ w'.cell? ⟨g3, 4, none⟩ = some (.int .i64 imm) ∧ w'.cell? ⟨g3, 5, none⟩ = some (.bool aq) ∧ w'.cell? ⟨g3, 6, none⟩ = some (.bool rl) ∧ w'.cell? ⟨g3, 7, none⟩ = some (.int .i64 pred) ∧ w'.cell? ⟨g3, 8, none⟩ = some (.int .i64 succ) :=
      fun w h => (KC w h.bw).mono fun e w' hh => by
        obtain ⟨he, hbw, hq⟩ := hh
        have h' := h.on hq
        obtain ⟨a0, a1, a2, a3, a4, a5, a6, a7, a8⟩ := C9.of h'.2.1
        exact ⟨he, h', a0, a1, a2, a3, a4, a5, a6, a7, a8, C9.of h'.2.2.1⟩
    generalize w6 = w9 at *
    obtain ⟨a0, a1, a2, a3, a4, a5, a6, a7, a8⟩ := hi8
    obtain ⟨k0, k1, k2, k3, k4, k5, k6, k7, k8⟩ := hk8
    simp only at a0 a1 a2 a3 a4 a5 a6 a7 a8 k0 k1 k2 k3 k4 k5 k6 k7 k8
    have heq := HE.out
    clear KC KW KF KS L L2 hb9 hi9 hk9
    go_region_held3 (fun w' => T2 W g1 g3 ⟨op, rd, rs1, rs2, imm, aq, rl, pred, succ⟩ ⟨op, rd, rs1, rs2, imm, aq, rl, pred, succ⟩ w' ∧ w'.cell? ⟨g1, 0, none⟩ = some (.int .i64 op) ∧ w'.cell? ⟨g1, 1, none⟩ = some (.int .i64 rd) ∧ w'.cell? ⟨g1, 2, none⟩ = some (.int .i64 rs1) ∧ w'.cell? ⟨g1, 3, none⟩ = some (.int .i64 rs2) ∧ w'.cell? ⟨g1, 4, none⟩ = some (.int .i64 imm) ∧ w'.cell? ⟨g1, 5, none⟩ = some (.bool aq) ∧ w'.cell? ⟨g1, 6, none⟩ = some (.bool rl) ∧ w'.cell? ⟨g1, 7, none⟩ = some (.int .i64 pred) ∧ w'.cell? ⟨g1, 8, none⟩ = some (.int .i64 succ) ∧ w'.cell? ⟨g3, 0, none⟩ = some (.int .i64 op) ∧ w'.cell? ⟨g3, 1, none⟩ = some (.int .i64 rd) ∧ w'.cell? ⟨g3, 2, none⟩ = some (.int .i64 rs1) ∧ w'.cell? ⟨g3, 3, none⟩ = some (.int .i64 rs2) ∧ w'.cell? ⟨g3, 4, none⟩ = some (.int .i64 imm) ∧ w'.cell? ⟨g3, 5, none⟩ = some (.bool aq) ∧ w'.cell? ⟨g3, 6, none⟩ = some (.bool rl) ∧ w'.cell? ⟨g3, 7, none⟩ = some (.int .i64 pred) ∧ w'.cell? ⟨g3, 8, none⟩ = some (.int .i64 succ))
      (first | (exact ⟨by assumption, by assumption, by assumption, by assumption, by assumption, by assumption, by assumption, by assumption, by assumption, by assumption, by assumption, by assumption, by assumption, by assumption, by assumption, by assumption, by assumption, by assumption, by assumption⟩) | (exact ⟨T2.drew (by assumption), by assumption, by assumption, by assumption, by assumption, by assumption, by assumption, by assumption, by assumption, by assumption, by assumption, by assumption, by assumption, by assumption, by assumption, by assumption, by assumption, by assumption, by assumption⟩) | (refine ⟨?_, ?_, ?_, ?_, ?_, ?_, ?_, ?_, ?_, ?_, ?_, ?_, ?_, ?_, ?_, ?_, ?_, ?_, ?_⟩ <;> go_keep))
      (first
        | (go_at_call 15; refine (KD _ ?_).mono ?_; (first | assumption | exact T2.drew (by assumption)); rintro e w' ⟨rfl, hJ2, b0, b1, b2, b3, b4, b5, b6, b7, b8, d0, d1, d2, d3, d4, d5, d6, d7, d8⟩))
    all_goals go_wp2
    all_goals go_ret
    all_goals refine ⟨rfl, ?_⟩
    all_goals first | exact Below.mono (T2.bw (by assumption)) (Nat.le_refl _) | exact (by assumption : T2 W g1 g3 _ _ _).1
end Go.Proofs.YtbnacdhhacafkaaDoor
/- The law on opcodes and on a fence's ignored bits. -/
namespace Go.Proofs.YtbnacdhhacafkaaDoor
open Go.RowKit

theorem decI_fence {x : Int} (h : Isw x 50) : decI x = ⟨50, 0, 0, 0, 0, false, false, x / 16777216 % 16, x / 1048576 % 16⟩ ∧ decE x = 0 := by
  have hw := opW_is (by decide) h
  refine ⟨?_, ?_⟩
  · unfold decI; rw [hw, if_neg (by decide)]; exact ins_fence x
  · unfold decE decB; rw [hw]; rfl
theorem some_law {W : World} (C : Cdec W) (v o : Int) (hv : U32 v) (hoo : U32 o) :
    Calls Tryd.prog 6 #[.int .u32 v, .int .u32 o] W fun e w' => e = .returned (.bool true) ∧ Below W.heap.size W w' := by
  have HB : BW W W := Below.refl _ _
  have L2 := fun w (h : BW W w) => past h (alive_any (C.on h) w (Below.refl _ _))
  obtain ⟨p1, p2, p3, p4, p5, p6⟩ := fen_facts v o hv.1 hv.2 hoo.1 hoo.2
  obtain ⟨f1, f2⟩ := decI_fence (isw_fence p1 p2 p3)
  obtain ⟨g1, g2⟩ := decI_fence (isw_fence p4 p5 (by omega))
  have HP := fun w (h : BW W w) => past h (C.decode v w h hv)
  have HF := fun w (h : BW W w) => past h (C.decode (fenV v) w h (u_bits _ _ _))
  have HG := fun w (h : BW W w) => past h (C.decode (ignV v o) w h (u_bits _ _ _))
  rw [f1, f2] at HF
  rw [g1, g2, show ignV v o / 16777216 % 16 = fenV v / 16777216 % 16 by omega, p6] at HG
  have HO := fun op (h1 : I64 op) w (h : BW W w) => past h (C.opcode op w h h1)
  clear p1 p2 p3 p4 p5 p6 f1 f2 g1 g2
  unfold insV at HP HF HG
  simp only at HF HG
  have ha : Hid (bits .and .u32 v 127 = v % 128) := bits_mask .u32 32 (by decide) (fun n h₀ h₁ => by rw [IntKind.wrap_u32]; omega) 7 (by decide) v hv.1 (by have := hv.2; omega)
  obtain ⟨x7, hx7⟩ : ∃ x, fenV v / 16777216 % 16 = x := ⟨_, rfl⟩
  obtain ⟨x8, hx8⟩ : ∃ x, fenV v / 1048576 % 16 = x := ⟨_, rfl⟩
  rw [hx7, hx8] at HF HG
  have heq := fun w => run_eql_same (P := Tryd.prog) (xs := insCells ⟨50, 0, 0, 0, 0, false, false, x7, x8⟩) w 29 (by kernel_rfl) (by kernel_rfl) (by kernel_rfl)
  unfold insCells at heq
  simp only at heq
  unfold fenV at HF
  unfold ignV fenV at HG
  obtain ⟨v0, v1⟩ := hv
  obtain ⟨o0, o1⟩ := hoo
  clear hx7 hx8
  have hd : (decE v = 2) ∨ (decE v = 0 ∧ v % 128 = ocV (decI v).op ∧ I64 (decI v).op) := by
    by_cases h0 : opW v = 0
    · left; unfold decE decB; rw [h0]; rfl
    · right
      obtain ⟨h1, h2⟩ := opW_isw h0
      have e1 : (decI v).op = opW v := by unfold decI; rw [if_neg h0, insOf_op]
      refine ⟨decE_yes h0, ?_, ?_⟩
      · rw [e1]; exact h2.1
      · rw [e1]; exact ⟨by omega, by omega⟩
  have HE := Lib.hid heq
  clear heq
  go_enter Tryd.func6, Tryd.ntmps6
  go_upto_region 3 with (first
    | (go_at_call 7; refine (L2 _ HB).mono ?_; rintro e w1 ⟨rfl, hb1, hq⟩; clear hq))
  clear HB
  have hend : ∀ w4 : World, BW W w4 → True := fun _ _ => trivial
  clear hend
  generalize decE v = ev at *
  generalize decI v = i at *
  obtain ⟨iop, ird, irs1, irs2, iimm, iaq, irl, ipred, isucc⟩ := i
  simp only at HP hd
  rcases hd with rfl | ⟨rfl, hd1, hd2⟩
  case' inl =>
    go_upto_region 6 with (first
      | (go_at_call 16; ((with_reducible refine (HP _ hb1).mono ?_); rintro e w2 ⟨rfl, hb2, hq⟩; clear hq)))
    have HB4 : BW W _ := hb2.new (.cells #[.int .i64 iop, .int .i64 ird, .int .i64 irs1, .int .i64 irs2, .int .i64 iimm, .bool iaq, .bool irl, .int .i64 ipred, .int .i64 isucc] 29)
    generalize w2.alloc _ = w4 at *
  case' inr =>
    have hne : (v % 128 != ocV iop) = false := by simp [hd1]
    have hne2 : (bits .and .u32 v 127 != ocV iop) = false := by rw [ha.out]; exact hne
    have HOI := fun w h => HO iop hd2 w h
    generalize ocV iop = oi at *
    clear hd1
    go_upto_region 6 with (first
      | (go_at_call 16; ((with_reducible refine (HP _ hb1).mono ?_); rintro e w2 ⟨rfl, hb2, hq⟩; clear hq))
      | (go_at_call 10; refine (HOI _ (hb2.new _)).mono ?_; rintro e w4 ⟨rfl, HB4, hq⟩; clear hq))
  all_goals
    clear hb1 HP HO
    go_upto_region 8 with (first
      | (go_at_call 16; ((with_reducible refine (HF _ HB4).mono ?_); rintro e w5 ⟨rfl, hb5, hq⟩; clear hq)))
    have HA := Blk.new (insCells ⟨50, 0, 0, 0, 0, false, false, x7, x8⟩) 29 w5
    have HB6 := hb5.new (.cells (insCells ⟨50, 0, 0, 0, 0, false, false, x7, x8⟩) 29)
    have hga : W.heap.size ≤ w5.heap.size := Below.size hb5
    simp only [insCells] at HA HB6
    generalize w5.alloc (.cells _ 29) = w6 at *
    obtain ⟨ga, hgae⟩ : ∃ g, w5.heap.size = g := ⟨_, rfl⟩
    rw [hgae] at HA ⊢
    clear hgae hga hb5 HB4
    go_upto_region 9 with (first
      | (go_at_call 16; ((with_reducible refine (HG _ HB6).mono ?_); rintro e w7 ⟨rfl, hb7, hq⟩; have HA7 := HA.on hq; clear hq)))
    have HN := Blk.new (insCells ⟨50, 0, 0, 0, 0, false, false, x7, x8⟩) 29 w7
    have HB8 := hb7.new (.cells (insCells ⟨50, 0, 0, 0, 0, false, false, x7, x8⟩) 29)
    have HA8 := HA7.alloc (.cells (insCells ⟨50, 0, 0, 0, 0, false, false, x7, x8⟩) 29)
    simp only [insCells] at HN HB8 HA8
    generalize w7.alloc (.cells _ 29) = w8 at *
    obtain ⟨gb, hgbe⟩ : ∃ g, w7.heap.size = g := ⟨_, rfl⟩
    rw [hgbe] at HN ⊢
    clear hgbe hb7 HA HA7 HB6 HF HG
    have heq := HE.out
    go_wp2_with (first
      | (go_at_call 7; refine (L2 _ HB8).mono ?_; rintro e w9 ⟨rfl, hb9, hq⟩; have HX := HA8.on hq; have HY := HN.on hq; have a0 := HX.cell 0; have a1 := HX.cell 1; have a2 := HX.cell 2; have a3 := HX.cell 3; have a4 := HX.cell 4; have a5 := HX.cell 5; have a6 := HX.cell 6; have a7 := HX.cell 7; have a8 := HX.cell 8; have b0 := HY.cell 0; have b1 := HY.cell 1; have b2 := HY.cell 2; have b3 := HY.cell 3; have b4 := HY.cell 4; have b5 := HY.cell 5; have b6 := HY.cell 6; have b7 := HY.cell 7; have b8 := HY.cell 8; simp at a0 a1 a2 a3 a4 a5 a6 a7 a8 b0 b1 b2 b3 b4 b5 b6 b7 b8; clear hq HX HY))
    go_ret
    exact ⟨rfl, by assumption⟩
end Go.Proofs.YtbnacdhhacafkaaDoor
