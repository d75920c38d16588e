/- The program's Right: registers, annotations, sets, over the tables that the code lays. -/
import Derived.Test.YtolmecnjolfjgaaGreatDoorRows
import Derived.Test.YtolmecnjolfjgaaGreatDoorEh
import Derived.Test.YtolmecnjolfjgaaGreatDoorDe
import Derived.Test.YtolmecnjolfjgaaGreatDoorBa
import Derived.WalkKit
import Derived.WalkLawsBesides
import Derived.Deep.QuietTactic
import Derived.BigQuiet
import Derived.WalkSmall
import Derived.WalkSpells
import Derived.Lib.Hide
import Derived.Below
import Derived.LoopTactic
import Derived.Outline
import Derived.Deep.Cut
import Derived.Deep.CutRange
import Derived.Deep.RegionHeld3
import Derived.Deep.DeepCutAuto
set_option maxRecDepth 100000
namespace Go.Proofs.YtolmecnjolfjgaaGreatDoor
open Go.RowKit

theorem jn_new (i : Ins) (w : World) : Jn w i w.heap.size (w.alloc (.cells (insCells i) 40)) := ⟨BW.new (Below.refl _ _) _, Blk.new _ _ _, Nat.le_refl _⟩
def rngB (i : Ins) : Bool := decide (0 ≤ i.rd ∧ i.rd ≤ 31 ∧ 0 ≤ i.rs1 ∧ i.rs1 ≤ 31 ∧ 0 ≤ i.rs2 ∧ i.rs2 ≤ 31)
def regsB (i : Ins) : Bool := rngB i && eqB (clnI i) i
def annB (i : Ins) : Bool := decide (10 ≤ srt i.op ∨ (i.aq = false ∧ i.rl = false))
def setB (i : Ins) : Bool := decide (P4 i)

theorem regs_c (i : Ins) (ho : I64 i.op) (w : World) (T : Tab6 w) :
    Calls Tryz.prog 116 #[insV i] w fun e w' => e = .returned (.bool (regsB i)) ∧ Below w.heap.size w w' := by
  have HJ0 := jn_new i w
  have KC := fun g x (h : Jn w i g x) => (clean_c i ho x (T.below h.1)).mono fun e w' hh => (⟨hh.1, h.on hh.2, (h.on hh.2).cells⟩ : e = .returned (insV (clnI i)) ∧ Jn w i g w' ∧ _)
  have HE := fun w => run_eql_ins (clnI i) i w
  have HV : Hid (regsB i = (rngB i && eqB (clnI i) i)) := rfl
  have HRG : Hid (rngB i = decide (0 ≤ i.rd ∧ i.rd ≤ 31 ∧ 0 ≤ i.rs1 ∧ i.rs1 ≤ 31 ∧ 0 ≤ i.rs2 ∧ i.rs2 ≤ 31)) := rfl
  generalize regsB i = rb at *
  generalize rngB i = gb at *
  generalize eqB (clnI i) i = eb at *
  generalize clnI i = z at *
  obtain ⟨op, rd, rs1, rs2, imm, aq, rl, pred, succ⟩ := i
  obtain ⟨z0, z1, z2, z3, z4, z5, z6, z7, z8⟩ := z
  unfold insV insCells at *
  simp only at HJ0 KC HE HV HRG ⊢
  go_enter Tryz.func116, Tryz.ntmps116
  go_upto_region 1 with (fail)
  generalize w.alloc (.cells _ 40) = w1 at *
  obtain ⟨g, hg⟩ : ∃ g, w.heap.size = g := ⟨_, rfl⟩
  have HJ : Jn w ⟨op, rd, rs1, rs2, imm, aq, rl, pred, succ⟩ g w1 := by rw [← hg]; exact HJ0
  rw [hg]
  have HBW := HJ.1
  clear hg HJ0
  obtain ⟨c0, c1, c2, c3, c4, c5, c6, c7, c8⟩ := HJ.cells
  simp only at c0 c1 c2 c3 c4 c5 c6 c7 c8
  have ix0 : ∀ w : World, (Instr.index 168 (.agg #[.int .i64 rd, .int .i64 rs1, .int .i64 rs2]) (.int .i64 0)).run Tryz.prog w = .ok (.int .i64 rd) w := fun _ => by kernel_rfl
  have ix1 : ∀ w : World, (Instr.index 168 (.agg #[.int .i64 rd, .int .i64 rs1, .int .i64 rs2]) (.int .i64 1)).run Tryz.prog w = .ok (.int .i64 rs1) w := fun _ => by kernel_rfl
  have ix2 : ∀ w : World, (Instr.index 168 (.agg #[.int .i64 rd, .int .i64 rs1, .int .i64 rs2]) (.int .i64 2)).run Tryz.prog w = .ok (.int .i64 rs2) w := fun _ => by kernel_rfl
  go_wp2
  go_loop [4, 12] (fun _ v12 => ∃ k : Int, 0 ≤ k ∧ k ≤ 3 ∧ v12 = .int .i64 k ∧ Hid ((0 < k → 0 ≤ rd ∧ rd ≤ 31) ∧ (1 < k → 0 ≤ rs1 ∧ rs1 ≤ 31) ∧ (2 < k → 0 ≤ rs2 ∧ rs2 ≤ 31))) (fun _ v12 => (3 - intOf v12).toNat)
  case atStart => exact ⟨0, by omega, by omega, rfl, (show Hid _ from ⟨by omega, by omega, by omega⟩)⟩
  case round =>
    obtain ⟨k, k0, k1, rfl, HK⟩ := hrel
    have hk : k = 0 ∨ k = 1 ∨ k = 2 ∨ k = 3 := by omega
    clear k0 k1
    rcases hk with rfl | rfl | rfl | rfl
    · by_cases h0 : 0 ≤ rd
      · by_cases h1 : rd ≤ 31
        · go_wp2
          go_round
          case rel => exact ⟨1, by omega, by omega, rfl, (show Hid _ from ⟨fun _ => ⟨h0, h1⟩, by omega, by omega⟩)⟩
          case measure => simp [intOf]
        · have hx : Hid (gb = false) := by show _ = _; rw [HRG.out]; exact decide_eq_false (by omega)
          have h1 : 31 < rd := by omega
          go_wp2
          go_ret
          exact ⟨ret_bool (by rw [HV.out, hx.out]; rfl), HBW⟩
      · have hx : Hid (gb = false) := by show _ = _; rw [HRG.out]; exact decide_eq_false (by omega)
        have h1 : rd < 0 := by omega
        clear h0
        go_wp2
        go_ret
        exact ⟨ret_bool (by rw [HV.out, hx.out]; rfl), HBW⟩
    · by_cases h0 : 0 ≤ rs1
      · by_cases h1 : rs1 ≤ 31
        · go_wp2
          go_round
          case rel => exact ⟨2, by omega, by omega, rfl, (show Hid _ from ⟨fun _ => HK.out.1 (by omega), fun _ => ⟨h0, h1⟩, by omega⟩)⟩
          case measure => simp [intOf]
        · have hx : Hid (gb = false) := by show _ = _; rw [HRG.out]; exact decide_eq_false (by omega)
          have h1 : 31 < rs1 := by omega
          go_wp2
          go_ret
          exact ⟨ret_bool (by rw [HV.out, hx.out]; rfl), HBW⟩
      · have hx : Hid (gb = false) := by show _ = _; rw [HRG.out]; exact decide_eq_false (by omega)
        have h1 : rs1 < 0 := by omega
        clear h0
        go_wp2
        go_ret
        exact ⟨ret_bool (by rw [HV.out, hx.out]; rfl), HBW⟩
    · by_cases h0 : 0 ≤ rs2
      · by_cases h1 : rs2 ≤ 31
        · go_wp2
          go_round
          case rel => exact ⟨3, by omega, by omega, rfl, (show Hid _ from ⟨fun _ => HK.out.1 (by omega), fun _ => HK.out.2.1 (by omega), fun _ => ⟨h0, h1⟩⟩)⟩
          case measure => simp [intOf]
        · have hx : Hid (gb = false) := by show _ = _; rw [HRG.out]; exact decide_eq_false (by omega)
          have h1 : 31 < rs2 := by omega
          go_wp2
          go_ret
          exact ⟨ret_bool (by rw [HV.out, hx.out]; rfl), HBW⟩
      · have hx : Hid (gb = false) := by show _ = _; rw [HRG.out]; exact decide_eq_false (by omega)
        have h1 : rs2 < 0 := by omega
        clear h0
        go_wp2
        go_ret
        exact ⟨ret_bool (by rw [HV.out, hx.out]; rfl), HBW⟩
    · have hx : Hid (gb = true) := by
        show _ = _; rw [HRG.out]
        have a := HK.out.1 (by omega)
        have b := HK.out.2.1 (by omega)
        have c := HK.out.2.2 (by omega)
        exact decide_eq_true ⟨a.1, a.2, b.1, b.2, c.1, c.2⟩
      clear HK ix0 ix1 ix2 HRG
      go_wp2
      go_region_held3 (fun w' => Jn w ⟨op, rd, rs1, rs2, imm, aq, rl, pred, succ⟩ g w' ∧ w'.cell? ⟨g, 0, none⟩ = some (.int .i64 op) ∧ w'.cell? ⟨g, 1, none⟩ = some (.int .i64 rd) ∧ w'.cell? ⟨g, 2, none⟩ = some (.int .i64 rs1) ∧ w'.cell? ⟨g, 3, none⟩ = some (.int .i64 rs2) ∧ w'.cell? ⟨g, 4, none⟩ = some (.int .i64 imm) ∧ w'.cell? ⟨g, 5, none⟩ = some (.bool aq) ∧ w'.cell? ⟨g, 6, none⟩ = some (.bool rl) ∧ w'.cell? ⟨g, 7, none⟩ = some (.int .i64 pred) ∧ w'.cell? ⟨g, 8, none⟩ = some (.int .i64 succ))
        (first | (exact ⟨by assumption, by assumption, by assumption, by assumption, by assumption, by assumption, by assumption, by assumption, by assumption, by assumption⟩) | (exact ⟨Jn.drew (by assumption), by assumption, by assumption, by assumption, by assumption, by assumption, by assumption, by assumption, by assumption, by assumption⟩) | (refine ⟨?_, ?_, ?_, ?_, ?_, ?_, ?_, ?_, ?_, ?_⟩ <;> go_keep))
        (first
          | (go_at_call 89; refine (KC g _ ?_).mono ?_; (first | assumption | exact Jn.drew (by assumption)); rintro e w' ⟨rfl, hJ2, b0, b1, b2, b3, b4, b5, b6, b7, b8⟩))
      all_goals go_wp2
      all_goals go_ret
      all_goals refine ⟨ret_bool (by rw [HV.out, hx.out]; rfl), ?_⟩
      all_goals exact (by assumption : Jn w ⟨op, rd, rs1, rs2, imm, aq, rl, pred, succ⟩ g _).1

theorem ann_c (i : Ins) (ho : I64 i.op) (w : World) (T : Tab6 w) :
    Calls Tryz.prog 117 #[insV i] w fun e w' => e = .returned (.bool (annB i)) ∧ Below w.heap.size w w' := by
  have HJ0 := jn_new i w
  have KS := fun x (h : TabL x) => sort_c i.op ho x h
  have HV : Hid (annB i = decide (10 ≤ srt i.op ∨ (i.aq = false ∧ i.rl = false))) := rfl
  have HT := T.lasts.below HJ0.1
  generalize annB i = rb at *
  obtain ⟨op, rd, rs1, rs2, imm, aq, rl, pred, succ⟩ := i
  unfold insV insCells at *
  simp only at HJ0 KS HV HT ⊢
  generalize srt op = s at *
  by_cases hs : 10 ≤ s
  all_goals
    cases aq
    all_goals
      cases rl
      all_goals
        have HS := Lib.hid hs
        go_enter Tryz.func117, Tryz.ntmps117
        go_upto_region 1 with (fail)
        generalize w.alloc (.cells _ 40) = w1 at *
        obtain ⟨g, hg⟩ : ∃ g, w.heap.size = g := ⟨_, rfl⟩
        have HJ := HJ0
        rw [hg] at HJ ⊢
        have HBW := HJ.1
        clear hg HJ0
        obtain ⟨c0, c1, c2, c3, c4, c5, c6, c7, c8⟩ := HJ.cells
        simp only at c0 c1 c2 c3 c4 c5 c6 c7 c8
        go_wp2_with (first
          | (go_at_call 56; refine (KS _ HT).mono ?_; rintro e w' ⟨rfl, rfl⟩))
        go_ret
        exact ⟨ret_bool (by rw [HV.out]; have := HS.out; simp [this]), HBW⟩

theorem set_c (i : Ins) (w : World) :
    Calls Tryz.prog 118 #[insV i] w fun e w' => e = .returned (.bool (setB i)) ∧ Below w.heap.size w w' := by
  have HJ0 := jn_new i w
  have HV : Hid (setB i = decide (P4 i)) := rfl
  generalize setB i = rb at *
  obtain ⟨op, rd, rs1, rs2, imm, aq, rl, pred, succ⟩ := i
  unfold insV insCells at *
  simp only at HJ0 HV ⊢
  obtain ⟨lo, hi, hlo⟩ : ∃ lo hi : Int, (op = 50 ∧ lo = 0 ∧ hi = 15) ∨ (op = 51 ∧ lo = 3 ∧ hi = 3) ∨ (op ≠ 50 ∧ op ≠ 51 ∧ lo = 0 ∧ hi = 0) := by
    by_cases h : op = 50
    · exact ⟨0, 15, .inl ⟨h, rfl, rfl⟩⟩
    · by_cases h' : op = 51
      · exact ⟨3, 3, .inr (.inl ⟨h', rfl, rfl⟩)⟩
      · exact ⟨0, 0, .inr (.inr ⟨h, h', rfl, rfl⟩)⟩
  have HW : Hid (rb = decide (lo ≤ pred ∧ pred ≤ hi ∧ lo ≤ succ ∧ succ ≤ hi)) := by
    show _ = _
    rw [HV.out, decide_eq_decide]
    unfold P4
    simp only
    rcases hlo with ⟨rfl, rfl, rfl⟩ | ⟨rfl, rfl, rfl⟩ | ⟨h, h', rfl, rfl⟩
    · rw [if_pos rfl]; omega
    · rw [if_neg (by decide), if_pos rfl]; omega
    · rw [if_neg h, if_neg h']; omega
  clear HV
  have hc : pred < lo ∨ (lo ≤ pred ∧ hi < pred) ∨ (lo ≤ pred ∧ pred ≤ hi ∧ succ < lo) ∨ (lo ≤ pred ∧ pred ≤ hi ∧ lo ≤ succ ∧ hi < succ) ∨ (lo ≤ pred ∧ pred ≤ hi ∧ lo ≤ succ ∧ succ ≤ hi) := by omega
  rcases hlo with ⟨rfl, rfl, rfl⟩ | ⟨rfl, rfl, rfl⟩ | ⟨h, h', rfl, rfl⟩
  case inr.inr =>
    have b0 : (op == 50) = false := by simpa using h
    have b1 : (op == 51) = false := by simpa using h'
    clear h h'
    rcases hc with ha | ⟨ha, hb⟩ | ⟨ha, hb, hc⟩ | ⟨ha, hb, hc, hd⟩ | ⟨ha, hb, hc, hd⟩
    all_goals
      first | (have HX : Hid (rb = false) := by show _ = _; rw [HW.out]; exact decide_eq_false (by omega)) | (have HX : Hid (rb = true) := by show _ = _; rw [HW.out]; exact decide_eq_true (by omega))
      clear HW
      go_enter Tryz.func118, Tryz.ntmps118
      go_upto_region 1 with (fail)
      generalize w.alloc (.cells _ 40) = w1 at *
      obtain ⟨g, hg⟩ : ∃ g, w.heap.size = g := ⟨_, rfl⟩
      have HJ : Jn w ⟨op, rd, rs1, rs2, imm, aq, rl, pred, succ⟩ g w1 := by rw [← hg]; exact HJ0
      rw [hg]
      have HBW := HJ.1
      clear hg HJ0
      obtain ⟨c0, c1, c2, c3, c4, c5, c6, c7, c8⟩ := HJ.cells
      simp only at c0 c1 c2 c3 c4 c5 c6 c7 c8
      go_wp2
      go_ret
      exact ⟨ret_bool (Eq.trans (by first | rfl | exact decide_eq_false (by omega) | exact decide_eq_true (by omega)) HX.out.symm), HBW⟩
  all_goals
    rcases hc with ha | ⟨ha, hb⟩ | ⟨ha, hb, hc⟩ | ⟨ha, hb, hc, hd⟩ | ⟨ha, hb, hc, hd⟩
    all_goals
      first | (have HX : Hid (rb = false) := by show _ = _; rw [HW.out]; exact decide_eq_false (by omega)) | (have HX : Hid (rb = true) := by show _ = _; rw [HW.out]; exact decide_eq_true (by omega))
      clear HW
      go_enter Tryz.func118, Tryz.ntmps118
      go_upto_region 1 with (fail)
      generalize w.alloc (.cells _ 40) = w1 at *
      obtain ⟨g, hg⟩ : ∃ g, w.heap.size = g := ⟨_, rfl⟩
      have HJ := HJ0
      rw [hg] at HJ ⊢
      have HBW := HJ.1
      clear hg HJ0
      obtain ⟨c0, c1, c2, c3, c4, c5, c6, c7, c8⟩ := HJ.cells
      simp only at c0 c1 c2 c3 c4 c5 c6 c7 c8
      go_wp2
      go_ret
      exact ⟨ret_bool (Eq.trans (by first | rfl | exact decide_eq_false (by omega) | exact decide_eq_true (by omega)) HX.out.symm), HBW⟩

/-! ### Right -/
theorem eqB_cln (i : Ins) : eqB (clnI i) i = decide ((wrB i.op = true ∨ i.rd = 0) ∧ (firB i.op = true ∨ i.rs1 = 0) ∧ (secB i.op = true ∨ i.rs2 = 0)) := by
  rw [Bool.eq_iff_iff, eqB_iff, decide_eq_true_eq]
  obtain ⟨op, rd, rs1, rs2, imm, aq, rl, pred, succ⟩ := i
  unfold clnI
  simp only [Ins.mk.injEq, true_and, and_true]
  constructor
  · rintro ⟨h1, h2, h3⟩
    refine ⟨?_, ?_, ?_⟩
    · cases h : wrB op
      · rw [h] at h1; exact .inr h1.symm
      · exact .inl rfl
    · cases h : firB op
      · rw [h] at h2; exact .inr h2.symm
      · exact .inl rfl
    · cases h : secB op
      · rw [h] at h3; exact .inr h3.symm
      · exact .inl rfl
  · rintro ⟨h1, h2, h3⟩
    refine ⟨?_, ?_, ?_⟩
    · rcases h1 with h | h
      · rw [h]; rfl
      · rw [h]; split <;> rfl
    · rcases h2 with h | h
      · rw [h]; rfl
      · rw [h]; split <;> rfl
    · rcases h3 with h | h
      · rw [h]; rfl
      · rw [h]; split <;> rfl
theorem rgt_parts (i : Ins) : rgtB i = (imB i.op i.imm && (decide (srt i.op ≠ 0) && (regsB i && (annB i && setB i)))) := by
  rw [imB_P3]
  unfold rgtB regsB rngB annB setB
  rw [eqB_cln, Bool.eq_iff_iff]
  simp only [Bool.and_eq_true, decide_eq_true_eq]
  unfold P1 P2
  constructor
  · rintro ⟨⟨⟨⟨a0, a1⟩, ⟨b1, b2, b3, b4⟩⟩, c⟩, d⟩
    exact ⟨c, a0, ⟨a1, b1, b2, b3⟩, b4, d⟩
  · rintro ⟨c, a0, ⟨a1, b1, b2, b3⟩, b4, d⟩
    exact ⟨⟨⟨⟨a0, a1⟩, ⟨b1, b2, b3, b4⟩⟩, c⟩, d⟩
theorem right_c (i : Ins) (ho : I64 i.op) (w : World) (T : Tab6 w) :
    Calls Tryz.prog 61 #[insV i] w fun e w' => e = .returned (.bool (rgtB i)) ∧ Below w.heap.size w w' := by
  have HJ0 := jn_new i w
  have KI := fun g x (h : Jn w i g x) => (imme_c i.op i.imm ho x (T.below h.1)).mono fun e w' hh => (⟨hh.1, h.on hh.2⟩ : _ ∧ Jn w i g w')
  have KS := fun g x (h : Jn w i g x) => sort_c i.op ho x (T.lasts.below h.1)
  have KR := fun g x (h : Jn w i g x) => (regs_c i ho x (T.below h.1)).mono fun e w' hh => (⟨hh.1, h.on hh.2⟩ : _ ∧ Jn w i g w')
  have KA := fun g x (h : Jn w i g x) => (ann_c i ho x (T.below h.1)).mono fun e w' hh => (⟨hh.1, h.on hh.2⟩ : _ ∧ Jn w i g w')
  have KT := fun g x (h : Jn w i g x) => (set_c i x).mono fun e w' hh => (⟨hh.1, h.on hh.2⟩ : _ ∧ Jn w i g w')
  have HV : Hid (rgtB i = (imB i.op i.imm && (decide (srt i.op ≠ 0) && (regsB i && (annB i && setB i))))) := rgt_parts i
  generalize rgtB i = r at *
  generalize imW i.op i.imm = iw at *
  generalize regsB i = b3 at *
  generalize annB i = b4 at *
  generalize setB i = b5 at *
  obtain ⟨s, hs⟩ : ∃ s, srt i.op = s := ⟨_, rfl⟩
  have HB2 : Hid (decide (srt i.op ≠ 0) = (s != 0)) := by show _ = _; rw [hs]; rw [Bool.eq_iff_iff]; simp
  rw [HB2.out] at HV
  rw [hs] at KS
  clear HB2 hs T
  cases hb1 : imB i.op i.imm
  case false =>
    rw [hb1] at KI HV
    clear hb1 KS KR KA KT
    obtain ⟨op, rd, rs1, rs2, imm, aq, rl, pred, succ⟩ := i
    unfold insV insCells at *
    simp only at HJ0 KI HV ⊢
    go_enter Tryz.func61, Tryz.ntmps61
    go_upto_region 1 with (fail)
    generalize w.alloc (.cells _ 40) = w1 at *
    obtain ⟨g, hg⟩ : ∃ g, w.heap.size = g := ⟨_, rfl⟩
    have HJ : Jn w ⟨op, rd, rs1, rs2, imm, aq, rl, pred, succ⟩ g w1 := by rw [← hg]; exact HJ0
    rw [hg]
    clear hg HJ0
    obtain ⟨c0, c1, c2, c3, c4, c5, c6, c7, c8⟩ := HJ.cells
    simp only at c0 c1 c2 c3 c4 c5 c6 c7 c8
    go_wp2_with (first
      | (go_at_call 108; refine (KI g _ HJ).mono ?_; rintro e w2 ⟨rfl, HJ2⟩))
    go_ret
    exact ⟨ret_bool (by rw [HV.out]; rfl), HJ2.1⟩
  case true =>
    rw [hb1] at KI HV
    clear hb1
    obtain ⟨op, rd, rs1, rs2, imm, aq, rl, pred, succ⟩ := i
    unfold insV insCells at *
    simp only at HJ0 KI KS KR KA KT HV ⊢
    have hcs : (s != 0) = false ∨ ((s != 0) = true ∧ b3 = false) ∨ ((s != 0) = true ∧ b3 = true ∧ b4 = false) ∨ ((s != 0) = true ∧ b3 = true ∧ b4 = true) := by
      cases (s != 0) <;> cases b3 <;> cases b4 <;> simp
    rcases hcs with h1 | ⟨h1, rfl⟩ | ⟨h1, rfl, rfl⟩ | ⟨h1, rfl, rfl⟩
    all_goals
      have HV2 := HV.out
      rw [h1] at HV2
      clear HV
      have HV := Lib.hid HV2
      clear HV2
      go_enter Tryz.func61, Tryz.ntmps61
      go_upto_region 1 with (fail)
      generalize w.alloc (.cells _ 40) = w1 at *
      obtain ⟨g, hg⟩ : ∃ g, w.heap.size = g := ⟨_, rfl⟩
      have HJ : Jn w ⟨op, rd, rs1, rs2, imm, aq, rl, pred, succ⟩ g w1 := by rw [← hg]; exact HJ0
      rw [hg]
      clear hg HJ0
      obtain ⟨c0, c1, c2, c3, c4, c5, c6, c7, c8⟩ := HJ.cells
      simp only at c0 c1 c2 c3 c4 c5 c6 c7 c8
      go_wp2_with (first
        | (go_at_call 108; refine (KI g _ HJ).mono ?_; rintro e w2 ⟨rfl, HJ2⟩; clear c0 c1 c2 c3 c4 c5 c6 c7 c8 HJ; have HJ := HJ2; clear HJ2; obtain ⟨c0, c1, c2, c3, c4, c5, c6, c7, c8⟩ := HJ.cells; simp only at c0 c1 c2 c3 c4 c5 c6 c7 c8)
        | (go_at_call 56; refine (KS g _ HJ).mono ?_; rintro e w2 ⟨rfl, rfl⟩)
        | (go_at_call 116; refine (KR g _ HJ).mono ?_; rintro e w2 ⟨rfl, HJ2⟩; clear c0 c1 c2 c3 c4 c5 c6 c7 c8 HJ; have HJ := HJ2; clear HJ2; obtain ⟨c0, c1, c2, c3, c4, c5, c6, c7, c8⟩ := HJ.cells; simp only at c0 c1 c2 c3 c4 c5 c6 c7 c8)
        | (go_at_call 117; refine (KA g _ HJ).mono ?_; rintro e w2 ⟨rfl, HJ2⟩; clear c0 c1 c2 c3 c4 c5 c6 c7 c8 HJ; have HJ := HJ2; clear HJ2; obtain ⟨c0, c1, c2, c3, c4, c5, c6, c7, c8⟩ := HJ.cells; simp only at c0 c1 c2 c3 c4 c5 c6 c7 c8)
        | (go_at_call 118; refine (KT g _ HJ).mono ?_; rintro e w2 ⟨rfl, HJ2⟩; clear c0 c1 c2 c3 c4 c5 c6 c7 c8 HJ; have HJ := HJ2; clear HJ2; obtain ⟨c0, c1, c2, c3, c4, c5, c6, c7, c8⟩ := HJ.cells; simp only at c0 c1 c2 c3 c4 c5 c6 c7 c8))
      go_ret
      exact ⟨ret_bool (by rw [HV.out]; rfl), HJ.1⟩
end Go.Proofs.YtolmecnjolfjgaaGreatDoor
