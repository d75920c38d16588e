/- The contract of the document's Right. -/
import Derived.Test.YtdpbiboldmoadaaDoorRows
import Derived.Test.YtdpbiboldmoadaaDoorEw
import Derived.Test.YtdpbiboldmoadaaDoorJn
import Derived.Test.YtdpbiboldmoadaaDoorFm
import Derived.Test.YtdpbiboldmoadaaDoorBk4
import Derived.WalkKit
import Derived.WalkLawsBesides
import Derived.Deep.QuietTactic
import Derived.BigQuiet
import Derived.WalkSmall
import Derived.WalkSpells
import Derived.Lib.Hide
import Derived.Below
import Derived.Outline
import Derived.Deep.Cut
import Derived.Deep.CutRange
import Derived.Deep.RegionHeld3
import Derived.Deep.DeepCutAuto
set_option maxRecDepth 100000
namespace Go.Proofs.YtdpbiboldmoadaaDoor
open Go.RowKit

/-- May an instruction be: as a test. -/
def P1 (i : Ins) : Prop := srt i.op ≠ 0 ∧ 0 ≤ i.rd ∧ i.rd ≤ 31 ∧ 0 ≤ i.rs1 ∧ i.rs1 ≤ 31 ∧ 0 ≤ i.rs2 ∧ i.rs2 ≤ 31
def P2 (i : Ins) : Prop := (wrB i.op = true ∨ i.rd = 0) ∧ (firB i.op = true ∨ i.rs1 = 0) ∧ (secB i.op = true ∨ i.rs2 = 0) ∧ (10 ≤ srt i.op ∨ (i.aq = false ∧ i.rl = false))
def P3 (i : Ins) : Prop := (shV i.op = 6 → 0 ≤ i.imm ∧ i.imm ≤ 63) ∧ (shV i.op = 5 → 0 ≤ i.imm ∧ i.imm ≤ 31) ∧ (shV i.op = 0 ∧ fmV i.op = 0 → i.imm = 0) ∧ (0 < fmV i.op → May (fmV i.op) i.imm)
def P4 (i : Ins) : Prop := if i.op = 50 then 0 ≤ i.pred ∧ i.pred < 16 ∧ 0 ≤ i.succ ∧ i.succ < 16 else if i.op = 51 then i.pred = 3 ∧ i.succ = 3 else i.pred = 0 ∧ i.succ = 0
instance (i : Ins) : Decidable (P1 i) := by unfold P1; infer_instance
instance (i : Ins) : Decidable (P2 i) := by unfold P2; infer_instance
instance (i : Ins) : Decidable (P3 i) := by unfold P3; infer_instance
instance (i : Ins) : Decidable (P4 i) := by unfold P4; infer_instance
def rgtB (i : Ins) : Bool := decide (P1 i) && decide (P2 i) && decide (P3 i) && decide (P4 i)
theorem P3.may {i : Ins} (h : P3 i) : 0 < fmV i.op → May (fmV i.op) i.imm := h.2.2.2
theorem rgt_iff (i : Ins) : rgtB i = true ↔ Rgt i := by
  unfold rgtB
  simp only [Bool.and_eq_true, decide_eq_true_eq]
  constructor
  · rintro ⟨⟨⟨⟨a0, a1, a2, a3, a4, a5, a6⟩, b1, b2, b3, b4⟩, c1, c2, c3, c4⟩, d⟩
    have hs := srt_spec i.op
    unfold P4 at d
    refine ⟨by omega, ⟨a1, a2⟩, ⟨a3, a4⟩, ⟨a5, a6⟩, fun h => b1.resolve_left (by rw [h]; decide), fun h => b2.resolve_left (by rw [h]; decide), fun h => b3.resolve_left (by rw [h]; decide), fun h => b4.resolve_left (by omega), c1, c2, fun h g => c3 ⟨h, g⟩, c4, fun h => ?_, fun h => ?_, fun h g => ?_⟩
    · rw [if_pos h] at d; exact d
    · rw [if_neg (by omega), if_pos h] at d; exact d
    · rw [if_neg h, if_neg g] at d; exact d
  · rintro ⟨h0, h1, h2, h3, w1, w2, w3, w4, s6, s5, nn, mm, f1, f2, f3⟩
    have hs := srt_spec i.op
    refine ⟨⟨⟨⟨by omega, h1.1, h1.2, h2.1, h2.2, h3.1, h3.2⟩, ?_, ?_, ?_, ?_⟩, s6, s5, fun h => nn h.1 h.2, mm⟩, ?_⟩
    · cases e : wrB i.op
      · exact .inr (w1 e)
      · exact .inl rfl
    · cases e : firB i.op
      · exact .inr (w2 e)
      · exact .inl rfl
    · cases e : secB i.op
      · exact .inr (w3 e)
      · exact .inl rfl
    · by_cases e : 10 ≤ srt i.op
      · exact .inl e
      · exact .inr (w4 (by omega))
    · unfold P4
      split
      · exact f1 ‹_›
      · split
        · exact f2 ‹_›
        · exact f3 ‹_› ‹_›
theorem rgt_of {i : Ins} {c : Bool} (h : c = true ↔ P1 i ∧ P2 i ∧ P3 i ∧ P4 i) : c = rgtB i := by
  unfold rgtB
  rw [Bool.eq_iff_iff, h]
  simp only [Bool.and_eq_true, decide_eq_true_eq, and_assoc]

set_option maxHeartbeats 20000000 in
set_option maxRecDepth 100000 in
theorem right_any (i : Ins) (ho : I64 i.op) (w : World) : Calls Tryd.prog 9 #[insV i] w fun e w' => e = .returned (.bool (rgtB i)) ∧ BW w w' := by
  have HJ0 : Jn w i w.heap.size (w.alloc (.cells (insCells i) 23)) := ⟨BW.new (Below.refl _ _) _, Blk.new _ _ _, Nat.le_refl _⟩
  have KS := fun g w1 (h : Jn w i g w1) => (rsort_any i.op ho.1 ho.2 w1).mono fun e w' (hh : _ ∧ _) => And.intro hh.1 (h.on hh.2)
  have KW := fun g w1 (h : Jn w i g w1) => (rwrites_any i.op ho.1 ho.2 w1).mono fun e w' (hh : _ ∧ _) => And.intro hh.1 (h.on hh.2)
  have KF := fun g w1 (h : Jn w i g w1) => (rfirst_any i.op ho.1 ho.2 w1).mono fun e w' (hh : _ ∧ _) => And.intro hh.1 (h.on hh.2)
  have K2 := fun g w1 (h : Jn w i g w1) => (rsecond_any i.op ho.1 ho.2 w1).mono fun e w' (hh : _ ∧ _) => And.intro hh.1 (h.on hh.2)
  have HQ : Hid (∀ c : Bool, (c = true ↔ P1 i ∧ P2 i ∧ P3 i ∧ P4 i) → c = rgtB i) := fun c h => rgt_of h
  unfold insV
  unfold insCells at HJ0
  go_enter Tryd.func9, Tryd.ntmps9
  go_upto_region 1 with (fail)
  generalize w.alloc (.cells _ 23) = w1 at *
  obtain ⟨g, hg⟩ : ∃ g, w.heap.size = g := ⟨_, rfl⟩
  rw [hg] at HJ0 ⊢
  have HG := Lib.hid hg
  clear hg
  obtain ⟨c0, c1, c2, c3, c4, c5, c6, c7, c8⟩ := HJ0.cells
  go_upto_region 2 with (first
    | (go_at_call 23; refine (KS g _ HJ0).mono ?_; rintro e w2 ⟨rfl, HJ⟩))
  clear c0 c1 c2 c3 c4 c5 c6 c7 c8 HJ0
  obtain ⟨c0, c1, c2, c3, c4, c5, c6, c7, c8⟩ := HJ.cells
  obtain ⟨so, hso⟩ : ∃ so, srt i.op = so := ⟨_, rfl⟩
  rw [hso]
  have HSO := Lib.hid hso
  clear hso
  go_cut [0, 3, 40] from 6 (fun _ s3 s wx => wx = w2 ∧ s3 = .int .i64 so ∧ ∃ t : Bool, s = .bool t ∧ Hid (t = true ↔ ¬ P1 i))
  case first => as_aux_lemma =>
    go_wp2_with fail
    all_goals
      go_meet
      case rel => exact ⟨rfl, int_eq (by first | rfl | omega), _, rfl, (show Hid _ from by show _ ↔ _; unfold P1; rw [HSO.out]; simp; try omega)⟩
  case rest =>
    obtain ⟨hwc, rfl, t1, rfl, HT1⟩ := hcut
    subst hwc
    cases t1
    case true =>
      have HN : Hid (¬ P1 i) := HT1.out.1 rfl
      clear HT1
      go_wp2_with fail
      go_ret
      exact ⟨ret_bool (HQ.out _ ⟨fun h => (by cases h), fun h => absurd h.1 HN.out⟩), HJ.1⟩
    case false =>
      have H1 : Hid (P1 i) := by have := HT1.out; show P1 i; exact Classical.not_not.1 (fun h => by have := this.2 h; cases this)
      have hop : 1 ≤ i.op ∧ i.op ≤ 75 := by have := H1.out.1; have := srt_spec i.op; omega
      have HOP := Lib.hid hop
      have HCL := Lib.hid (classes hop)
      clear HT1 hop
      go_upto_region 4 with (fail)
      go_cut [0, 83] from 6 (fun _ s wx => Jn w i g wx ∧ ∃ t : Bool, s = .bool t ∧ Hid (t = true ↔ ¬ P2 i))
      case first => as_aux_lemma =>
        have hcc : (wrB i.op = true ∧ firB i.op = false ∧ secB i.op = false) ∨ (wrB i.op = true ∧ firB i.op = true ∧ secB i.op = false) ∨ (wrB i.op = false ∧ firB i.op = true ∧ secB i.op = true) ∨ (wrB i.op = true ∧ firB i.op = true ∧ secB i.op = true) ∨ (wrB i.op = false ∧ firB i.op = false ∧ secB i.op = false) := by
          rcases HCL.out with h | h | h | h | h | h | h | h | h | h | h | h | h <;> simp [h.1, h.2.1, h.2.2.1]
        clear HCL HOP
        have hsl : so < 10 ∨ 10 ≤ so := by omega
        rcases hcc with ⟨hw, hf, hs⟩ | ⟨hw, hf, hs⟩ | ⟨hw, hf, hs⟩ | ⟨hw, hf, hs⟩ | ⟨hw, hf, hs⟩
        all_goals
          rw [hw] at KW
          rw [hf] at KF
          rw [hs] at K2
          have HW := Lib.hid hw
          have HF := Lib.hid hf
          have HS := Lib.hid hs
          clear hw hf hs
          rcases hsl with hsl | hsl
        all_goals
          go_wp2_with (first
            | (go_at_call 24; refine (KW g _ HJ).mono ?_; rintro e w3 ⟨rfl, HJ2⟩; clear c0 c1 c2 c3 c4 c5 c6 c7 c8 HJ; have HJ := HJ2; clear HJ2; obtain ⟨c0, c1, c2, c3, c4, c5, c6, c7, c8⟩ := HJ.cells)
            | (go_at_call 25; refine (KF g _ HJ).mono ?_; rintro e w3 ⟨rfl, HJ2⟩; clear c0 c1 c2 c3 c4 c5 c6 c7 c8 HJ; have HJ := HJ2; clear HJ2; obtain ⟨c0, c1, c2, c3, c4, c5, c6, c7, c8⟩ := HJ.cells)
            | (go_at_call 26; refine (K2 g _ HJ).mono ?_; rintro e w3 ⟨rfl, HJ2⟩; clear c0 c1 c2 c3 c4 c5 c6 c7 c8 HJ; have HJ := HJ2; clear HJ2; obtain ⟨c0, c1, c2, c3, c4, c5, c6, c7, c8⟩ := HJ.cells))
          all_goals
            go_meet
            case rel => exact ⟨by assumption, _, rfl, (show Hid _ from by show _ ↔ _; unfold P2; rw [HSO.out, HW.out, HF.out, HS.out]; simp [*]; try omega)⟩
      case rest =>
        obtain ⟨HJC, t2, rfl, HT2⟩ := hcut
        clear c0 c1 c2 c3 c4 c5 c6 c7 c8 HJ
        cases t2
        case true =>
          have HN : Hid (¬ P2 i) := HT2.out.1 rfl
          clear HT2
          go_wp2_with fail
          go_ret
          exact ⟨ret_bool (HQ.out _ ⟨fun h => (by cases h), fun h => absurd h.2.1 HN.out⟩), HJC.1⟩
        case false =>
          have H2 : Hid (P2 i) := by have := HT2.out; show P2 i; exact Classical.not_not.1 (fun h => by have := this.2 h; cases this)
          clear HT2
          obtain ⟨c0, c1, c2, c3, c4, c5, c6, c7, c8⟩ := HJC.cells
          go_upto_region 6 with (fail)
          go_cut [0, 4, 5] from 6 (fun _ s4 s5 wx => Jn w i g wx ∧ s4 = .int .i64 (shV i.op) ∧ s5 = .int .i64 (fmV i.op))
          case first => as_aux_lemma =>
            clear c1 c2 c3 c4 c5 c6 c7 c8
            have KH := fun w1 (h : Jn w i g w1) => (sh_any i.op HOP.out w1).mono fun e w' (hh : _ ∧ _) => And.intro hh.1 (And.intro (h.on hh.2) ((h.on hh.2).cells.1))
            have KM := fun w1 (h : Jn w i g w1) => (fm_any i.op HOP.out w1).mono fun e w' (hh : _ ∧ _) => And.intro hh.1 (And.intro (h.on hh.2) ((h.on hh.2).cells.1))
            go_region_held3 (fun w' => Jn w i g w' ∧ w'.cell? ⟨g, 0, none⟩ = some (.int .i64 i.op))
              (first | (exact ⟨by assumption, by assumption⟩) | (exact ⟨Jn.drew (by assumption), by assumption⟩) | (refine ⟨?_, ?_⟩ <;> go_keep))
              (first
                | (go_at_call 27; refine (KH _ ?_).mono ?_; (first | assumption | exact Jn.drew (by assumption)); rintro e w' ⟨rfl, hJ3, b0⟩)
                | (go_at_call 28; refine (KM _ ?_).mono ?_; (first | assumption | exact Jn.drew (by assumption)); rintro e w' ⟨rfl, hJ3, b0⟩))
            all_goals go_wp2_with fail
            all_goals
              go_meet
              case rel => exact ⟨by assumption, rfl, rfl⟩
          case rest =>
            obtain ⟨HJD, rfl, rfl⟩ := hcut
            clear c0 c1 c2 c3 c4 c5 c6 c7 c8 HJC
            obtain ⟨c0, c1, c2, c3, c4, c5, c6, c7, c8⟩ := HJD.cells
            have hnf : (shV i.op = 6 ∧ fmV i.op = 0 ∧ i.op ≠ 50 ∧ i.op ≠ 51) ∨ (shV i.op = 5 ∧ fmV i.op = 0 ∧ i.op ≠ 50 ∧ i.op ≠ 51) ∨ (shV i.op = 0 ∧ (1 ≤ fmV i.op ∧ fmV i.op ≤ 5) ∧ i.op ≠ 50 ∧ i.op ≠ 51) ∨ (shV i.op = 0 ∧ fmV i.op = 0) := by
              rcases HCL.out with h | h | h | h | h | h | h | h | h | h | h | h | h
              all_goals (obtain ⟨_, _, _, h4, h5, _, h7, h8⟩ := h; omega)
            have HQ3 : Hid (∀ c : Bool, (c = true ↔ P3 i ∧ P4 i) → c = rgtB i) := fun c h => HQ.out c (by rw [h]; exact ⟨fun g => ⟨H1.out, H2.out, g.1, g.2⟩, fun g => g.2.2⟩)
            have KY := fun f w1 => may_any f i.imm w1
            obtain ⟨n, hn⟩ : ∃ n, shV i.op = n := ⟨_, rfl⟩
            obtain ⟨f, hf⟩ : ∃ f, fmV i.op = f := ⟨_, rfl⟩
            rw [hn, hf] at hnf ⊢
            have HNN := Lib.hid hn
            have HFF := Lib.hid hf
            clear hn hf KS KW KF K2 HQ HCL
            rcases hnf with ⟨rfl, rfl, h50, h51⟩ | ⟨rfl, rfl, h50, h51⟩ | ⟨rfl, ⟨f1, f5⟩, h50, h51⟩ | ⟨rfl, rfl⟩
            · as_aux_lemma =>
              have b50 : (i.op == 50) = false := by simpa using h50
              have b51 : (i.op == 51) = false := by simpa using h51
              have H50 := Lib.hid h50
              have H51 := Lib.hid h51
              clear h50 h51
              have hx : i.imm < 0 ∨ (0 ≤ i.imm ∧ 63 < i.imm) ∨ (0 ≤ i.imm ∧ i.imm ≤ 63) := by omega
              rcases hx with hx | ⟨hx, hy⟩ | ⟨hx, hy⟩
              case inl =>
                go_wp2_with fail
                go_ret
                exact ⟨ret_bool (HQ3.out _ (by unfold P3; rw [HNN.out, HFF.out]; simp; omega)), HJD.1⟩
              case inr.inl =>
                go_wp2_with fail
                go_ret
                exact ⟨ret_bool (HQ3.out _ (by unfold P3; rw [HNN.out, HFF.out]; simp; omega)), HJD.1⟩
              cases hp : (i.pred == 0)
              all_goals
                have HP := Lib.hid hp
                go_wp2_with (fail)
                go_ret
                refine ⟨ret_bool (HQ3.out _ ?_), HJD.1⟩
                have hp2 := HP.out
                unfold P3 P4
                rw [HNN.out, HFF.out, if_neg H50.out, if_neg H51.out]
                simp at hp2 ⊢
                omega
            · as_aux_lemma =>
              have b50 : (i.op == 50) = false := by simpa using h50
              have b51 : (i.op == 51) = false := by simpa using h51
              have H50 := Lib.hid h50
              have H51 := Lib.hid h51
              clear h50 h51
              have hx : i.imm < 0 ∨ (0 ≤ i.imm ∧ 31 < i.imm) ∨ (0 ≤ i.imm ∧ i.imm ≤ 31) := by omega
              rcases hx with hx | ⟨hx, hy⟩ | ⟨hx, hy⟩
              case inl =>
                go_wp2_with fail
                go_ret
                exact ⟨ret_bool (HQ3.out _ (by unfold P3; rw [HNN.out, HFF.out]; simp; omega)), HJD.1⟩
              case inr.inl =>
                go_wp2_with fail
                go_ret
                exact ⟨ret_bool (HQ3.out _ (by unfold P3; rw [HNN.out, HFF.out]; simp; omega)), HJD.1⟩
              cases hp : (i.pred == 0)
              all_goals
                have HP := Lib.hid hp
                go_wp2_with (fail)
                go_ret
                refine ⟨ret_bool (HQ3.out _ ?_), HJD.1⟩
                have hp2 := HP.out
                unfold P3 P4
                rw [HNN.out, HFF.out, if_neg H50.out, if_neg H51.out]
                simp at hp2 ⊢
                omega
            · as_aux_lemma =>
              have b50 : (i.op == 50) = false := by simpa using h50
              have b51 : (i.op == 51) = false := by simpa using h51
              have bf : (f == 0) = false := by simp; omega
              have H50 := Lib.hid h50
              have H51 := Lib.hid h51
              clear h50 h51
              cases hm : mayB f i.imm
              case false =>
                have HM : Hid (¬ May f i.imm) := (show ¬ May f i.imm from of_decide_eq_false hm)
                have KY := KY f
                rw [hm] at KY
                clear hm
                go_wp2_with (go_at_call 29; refine (KY _).mono ?_; rintro e w' ⟨rfl, rfl⟩)
                go_ret
                exact ⟨ret_bool (HQ3.out _ ⟨fun h => (by cases h), fun h => absurd (by have := h.1.may; rw [HFF.out] at this; exact this (by omega)) HM.out⟩), HJD.1⟩
              case true =>
                have HM : Hid (May f i.imm) := (show May f i.imm from of_decide_eq_true hm)
                have KY := KY f
                rw [hm] at KY
                clear hm
                cases hp : (i.pred == 0)
                all_goals
                  have HP := Lib.hid hp
                  go_wp2_with (go_at_call 29; refine (KY _).mono ?_; rintro e w' ⟨rfl, rfl⟩)
                  go_ret
                  refine ⟨ret_bool (HQ3.out _ ?_), HJD.1⟩
                  have hp2 := HP.out
                  have hm2 := HM.out
                  have e3 : P3 i := by unfold P3; rw [HNN.out, HFF.out]; exact ⟨fun h => absurd h (by decide), fun h => absurd h (by decide), fun h => absurd h.2 (by omega), fun _ => hm2⟩
                  unfold P4
                  rw [if_neg H50.out, if_neg H51.out]
                  simp at hp2 ⊢
                  first | exact fun _ h => absurd h hp2 | simp [e3, hp2]
            · as_aux_lemma =>
              have hx : i.imm = 0 ∨ i.imm ≠ 0 := by omega
              rcases hx with hx | hx
              case inr =>
                have bx : (i.imm != 0) = true := by simpa using hx
                have HX := Lib.hid hx
                clear hx
                go_wp2_with fail
                go_ret
                exact ⟨ret_bool (HQ3.out _ (by have := HX.out; unfold P3; rw [HNN.out, HFF.out]; simp; omega)), HJD.1⟩
              case inl =>
                have bx : (i.imm != 0) = false := by simp [hx]
                have e3 : Hid (P3 i) := by show P3 i; unfold P3; rw [HNN.out, HFF.out]; exact ⟨fun h => absurd h (by decide), fun h => absurd h (by decide), fun _ => hx, fun h => absurd h (by decide)⟩
                clear hx
                have ho : i.op = 50 ∨ i.op = 51 ∨ (i.op ≠ 50 ∧ i.op ≠ 51) := by omega
                rcases ho with ho | ho | ⟨ho, ho2⟩
                · have b50 : (i.op == 50) = true := by simp [ho]
                  have HO := Lib.hid ho
                  clear ho
                  have hx : i.pred < 0 ∨ (0 ≤ i.pred ∧ 16 ≤ i.pred) ∨ (0 ≤ i.pred ∧ i.pred < 16 ∧ i.succ < 0) ∨ (0 ≤ i.pred ∧ i.pred < 16 ∧ 0 ≤ i.succ) := by omega
                  rcases hx with hx | ⟨hx, hy⟩ | ⟨hx, hy, hz⟩ | ⟨hx, hy, hz⟩
                  all_goals
                    go_wp2_with fail
                    go_ret
                    refine ⟨ret_bool (HQ3.out _ ?_), HJD.1⟩
                    have e4 := e3.out
                    unfold P4
                    rw [if_pos HO.out]
                    simp [e4]
                    try omega
                · have b50 : (i.op == 50) = false := by simp [ho]
                  have b51 : (i.op == 51) = true := by simp [ho]
                  have HO := Lib.hid ho
                  clear ho
                  cases hp : (i.pred == 3)
                  all_goals
                    have HP := Lib.hid hp
                    go_wp2_with fail
                    go_ret
                    refine ⟨ret_bool (HQ3.out _ ?_), HJD.1⟩
                    have e4 := e3.out
                    have hp2 := HP.out
                    unfold P4
                    rw [if_neg (by rw [HO.out]; decide), if_pos HO.out]
                    simp at hp2 ⊢
                    simp [e4, hp2]
                · have b50 : (i.op == 50) = false := by simpa using ho
                  have b51 : (i.op == 51) = false := by simpa using ho2
                  have H50 := Lib.hid ho
                  have H51 := Lib.hid ho2
                  clear ho ho2
                  cases hp : (i.pred == 0)
                  all_goals
                    have HP := Lib.hid hp
                    go_wp2_with fail
                    go_ret
                    refine ⟨ret_bool (HQ3.out _ ?_), HJD.1⟩
                    have e4 := e3.out
                    have hp2 := HP.out
                    unfold P4
                    rw [if_neg H50.out, if_neg H51.out]
                    simp at hp2 ⊢
                    simp [e4, hp2]
end Go.Proofs.YtdpbiboldmoadaaDoor
