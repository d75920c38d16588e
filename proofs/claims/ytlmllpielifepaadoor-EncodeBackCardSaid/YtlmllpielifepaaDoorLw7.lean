/- The laws EncodeWords, EncodeBack and EncodeUnlike, walked over what is asked of packages encode and decode. The law EncodeBack. The law EncodeUnlike. The law EncodePrograms. The law EncodePrograms, walked over what is asked of package encode. -/
import Derived.Test.YtlmllpielifepaaDoorRows
import Derived.Test.YtlmllpielifepaaDoorCes
import Derived.WalkKit
import Derived.WalkLawsBesides
import Derived.Deep.QuietTactic
import Derived.BigQuiet
import Derived.WalkSmall
import Derived.WalkSpells
import Derived.Lib.Hide
import Derived.Below
import Derived.LoopTactic
import Derived.Outline
import Derived.Test.YtlmllpielifepaaDoorWx
import Derived.Deep.LoopGhost
import Derived.OwnWalk
import Derived.Laws.AppendOwn
namespace Go.Proofs.YtlmllpielifepaaDoor
open Go.RowKit

theorem words_law {W : World} (C : Cenc W) (i : Ins) (ho : I64 i.op) :
    Calls Tryd.prog 3 #[insV i] W fun e w' => e = .returned (.bool true) ∧ Below W.heap.size W w' := by
  have HN := Blk.new (insCells i) 23 W
  have HW : BW W (W.alloc (.cells (insCells i) 23)) := BW.new (Below.refl _ _) _
  have L := fun w (h : BW W w) => alive7_any C w h
  have KE := fun w (h : BW W w) => past h (C.encode i w h ho)
  have KR := fun w (h : BW W w) => past h (C.right i w h ho)
  have KD := fun w (h : BW W w) => past h (right_any i ho w)
  have KO : ∀ w, BW W w → rgtB i = true → _ := fun w (h : BW W w) hr => past h (word_any i ((rgt_iff i).1 hr) w)
  have eW : encW i = if rgtB i then wordV i else 0 := rfl
  have eE : encE i = if rgtB i then 0 else 1 := rfl
  rw [eW, eE] at KE
  clear eW eE
  unfold insV at KE KR KD KO ⊢
  unfold insCells at HN HW
  cases hr : rgtB i
  all_goals
    rw [hr] at KE KR KD
    simp only [if_true, Bool.false_eq_true, if_false] at KE
    first
    | (have KO2 := fun w h => KO w h hr; clear KO; have KO := KO2; clear KO2)
    | (clear KO; have KO := trivial)
    clear hr
    generalize wordV i = wv at *
    obtain ⟨op, rd, rs1, rs2, imm, aq, rl, pred, succ⟩ := i
    simp only at KE KR KD HN HW ⊢
    try simp only at KO
  all_goals
    go_enter Tryd.func3, Tryd.ntmps3
    go_upto_region 1 with (fail)
    generalize W.alloc (.cells _ 23) = w1 at *
    obtain ⟨g1, hg1⟩ : ∃ g, W.heap.size = g := ⟨_, rfl⟩
    rw [hg1] at HN
    rw [hg1]
    have HG := Lib.hid hg1
    clear hg1
    go_upto_region 3 with (first
      | (go_at_call 7; refine (L _ HW).mono ?_; rintro e w2 ⟨rfl, hb2, hq⟩; have HN2 := HN.on hq; clear hq))
    go_upto_region 4 with (first
      | (with_reducible refine load_blk (o := ⟨some 9, _, _, _, _, _⟩) rfl 23 (.tmp 1) rfl HN2 rfl Tryd.underlying23 rfl (by kernel_rfl) ?_)
      | (go_at_call 8; refine (KE _ hb2).mono ?_; rintro e w3 ⟨rfl, hb3, hq⟩; have HN3 := HN2.on hq; clear hq))
    go_upto_region 5 with (first
      | (with_reducible refine load_blk (o := ⟨some 13, _, _, _, _, _⟩) rfl 23 (.tmp 1) rfl HN3 rfl Tryd.underlying23 rfl (by kernel_rfl) ?_)
      | (go_at_call 9; refine (KD _ hb3).mono ?_; rintro e w4 ⟨rfl, hb4, hq⟩; have HN4 := HN3.on hq; clear hq))
    go_upto_region 7 with (first
      | (with_reducible refine load_blk (o := ⟨some 15, _, _, _, _, _⟩) rfl 23 (.tmp 1) rfl HN4 rfl Tryd.underlying23 rfl (by kernel_rfl) ?_)
      | (go_at_call 10; refine (KR _ hb4).mono ?_; rintro e w5 ⟨rfl, hb5, hq⟩; have HN5 := HN4.on hq; clear hq))
    go_wp2_with (first
      | (go_at_call 7; refine (L _ hb5).mono ?_; rintro e w6 ⟨rfl, hb6, hq⟩; have HN6 := HN5.on hq; have c0 := HN6.cell 0; have c1 := HN6.cell 1; have c2 := HN6.cell 2; have c3 := HN6.cell 3; have c4 := HN6.cell 4; have c5 := HN6.cell 5; have c6 := HN6.cell 6; have c7 := HN6.cell 7; have c8 := HN6.cell 8; simp at c0 c1 c2 c3 c4 c5 c6 c7 c8; clear hq)
      | (go_at_call 11; refine (KO _ hb6).mono ?_; rintro e w7 ⟨rfl, hb7, hq⟩; clear hq))
    go_ret
    first | exact ⟨rfl, hb7⟩ | exact ⟨rfl, hb6⟩
end Go.Proofs.YtlmllpielifepaaDoor
namespace Go.Proofs.YtlmllpielifepaaDoor
open Go.RowKit

theorem join20 {p q : Nat} (h : q < 1048576) : p * 1048576 ||| q = p * 1048576 + q :=
  nat_join 20 _ _ (by rw [show (2 : Nat) ^ 20 = 1048576 by decide]; exact Nat.mul_mod_left _ _) (by rw [show (2 : Nat) ^ 20 = 1048576 by decide]; exact h)
theorem nlow (w : Nat) : w &&& 28799 = w / 4096 % 8 * 4096 + w % 128 := by
  have h1 := and_fld w 12 3
  have h2 := and_fld w 0 7
  rw [show (2 ^ 3 - 1) * 2 ^ 12 = 28672 by decide, show (2 : Nat) ^ 3 = 8 by decide, show (2 : Nat) ^ 12 = 4096 by decide] at h1
  rw [show (2 ^ 7 - 1) * 2 ^ 0 = 127 by decide, show (2 : Nat) ^ 7 = 128 by decide, Nat.pow_zero, Nat.div_one, Nat.mul_one] at h2
  have h3 : (28799 : Nat) = 28672 ||| 127 := by decide
  have h5 : w &&& 28799 = w &&& (28672 ||| 127) := by rw [← h3]
  rw [h5, Nat.and_or_distrib_left, h1, h2]
  exact join12 (by omega)
theorem nfen (w : Nat) : w &&& 267415679 = w / 1048576 % 256 * 1048576 + (w / 4096 % 8 * 4096 + w % 128) := by
  have h1 := and_fld w 20 8
  rw [show (2 ^ 8 - 1) * 2 ^ 20 = 267386880 by decide, show (2 : Nat) ^ 8 = 256 by decide, show (2 : Nat) ^ 20 = 1048576 by decide] at h1
  have h3 : (267415679 : Nat) = 267386880 ||| 28799 := by decide
  have h5 : w &&& 267415679 = w &&& (267386880 ||| 28799) := by rw [← h3]
  rw [h5, Nat.and_or_distrib_left, h1, nlow]
  exact join20 (by omega)
theorem ntso (w : Nat) : w &&& 4293947519 = w / 1048576 % 4096 * 1048576 + (w / 4096 % 8 * 4096 + w % 128) := by
  have h1 := and_fld w 20 12
  rw [show (2 ^ 12 - 1) * 2 ^ 20 = 4293918720 by decide, show (2 : Nat) ^ 12 = 4096 by decide, show (2 : Nat) ^ 20 = 1048576 by decide] at h1
  have h3 : (4293947519 : Nat) = 4293918720 ||| 28799 := by decide
  have h5 : w &&& 4293947519 = w &&& (4293918720 ||| 28799) := by rw [← h3]
  rw [h5, Nat.and_or_distrib_left, h1, nlow]
  exact join20 (by omega)
theorem own_fence {v : Int} (v0 : 0 ≤ v) (v1 : v < 4294967296) (h : Isw v 50) : bits .and .u32 v 267415679 = ownV v 50 := by
  have h1 := h.nrm.n1
  rw [show ocV 50 = 15 by decide] at h1
  have h2 : v / 4096 % 8 = 0 := by
    unfold Isw at h
    rw [show kdV 50 = 6 by decide] at h
    omega
  obtain ⟨a, rfl⟩ := Int.eq_ofNat_of_zero_le v0
  have e : bits .and .u32 (a : Int) 267415679 = ((a &&& 267415679 : Nat) : Int) := by
    have := u32_and (a : Int) 267415679 (by omega) (by omega) (by decide) (by decide)
    simpa using this
  rw [e, nfen]
  unfold ownV
  rw [if_pos rfl]
  omega
theorem own_tso {v : Int} (v0 : 0 ≤ v) (v1 : v < 4294967296) (h : Isw v 51) : bits .and .u32 v 4293947519 = ownV v 51 := by
  have h1 := h.nrm.n1
  have h3 := h.nrm.n8 (by decide)
  rw [show ocV 51 = 15 by decide] at h1
  have h2 : v / 4096 % 8 = 0 := by
    unfold Isw at h
    rw [show kdV 51 = 7 by decide] at h
    omega
  obtain ⟨a, rfl⟩ := Int.eq_ofNat_of_zero_le v0
  have e : bits .and .u32 (a : Int) 4293947519 = ((a &&& 4293947519 : Nat) : Int) := by
    have := u32_and (a : Int) 4293947519 (by omega) (by omega) (by decide) (by decide)
    simpa using this
  rw [e, ntso]
  unfold ownV
  rw [if_neg (by decide), if_pos rfl]
  omega
theorem opW_back {i : Ins} (h : Rgt i) : decI (wordV i) = i ∧ decE (wordV i) = 0 := by
  obtain ⟨_, h2, h3⟩ := enc_dec h
  have hw := opW_is h.op h2
  have hop := h.op
  refine ⟨?_, ?_⟩
  · unfold decI; rw [hw, if_neg (by omega)]; exact h3
  · exact decE_yes (by omega)
/-- What is told of a word: none, or an instruction that is right, whose word is the word's own bits. -/
theorem dec_ways {v : Int} (hv : U32 v) : decE v = 2 ∨ (decE v = 0 ∧ rgtB (decI v) = true ∧ I64 (decI v).op ∧ wordV (decI v) = ownV v (decI v).op ∧ Isw v (decI v).op) := by
  by_cases h0 : opW v = 0
  · left; unfold decE decB; rw [h0]; rfl
  · right
    obtain ⟨h1, h2⟩ := opW_isw h0
    obtain ⟨g1, g2⟩ := dec_enc h1 hv.1 hv.2 h2
    have e : decI v = insOf v (opW v) := by unfold decI; rw [if_neg h0]
    have e2 : (decI v).op = opW v := by rw [e, insOf_op]
    refine ⟨decE_yes h0, ?_, ?_, ?_, ?_⟩
    · rw [e]; exact (rgt_iff _).2 g1
    · rw [e2]; exact ⟨by omega, by omega⟩
    · rw [e2, e]; exact g2
    · rw [e2]; exact h2

set_option maxHeartbeats 1000000 in
theorem back_law {W : World} (C : Cenc W) (D : AskDecode W) (i : Ins) (v : Int) (ho : I64 i.op) (hv : U32 v) :
    Calls Tryd.prog 5 #[insV i, .int .u32 v] W fun e w' => e = .returned (.bool true) ∧ Below W.heap.size W w' := by
  have HN := Blk.new (insCells i) 23 W
  have HW : BW W (W.alloc (.cells (insCells i) 23)) := BW.new (Below.refl _ _) _
  have L := fun w (h : BW W w) => alive7_any C w h
  have KE := fun w (h : BW W w) => past h (C.encode i w h ho)
  have KD := fun w (h : BW W w) => past h (D v w h hv)
  have KB : rgtB i = true → ∀ w, BW W w → _ := fun hr w (h : BW W w) => past h (D (wordV i) w h (enc_dec ((rgt_iff i).1 hr)).1)
  have KB2 : rgtB i = true → decI (wordV i) = i ∧ decE (wordV i) = 0 := fun hr => opW_back ((rgt_iff i).1 hr)
  have KK : rgtB (decI v) = true → I64 (decI v).op → ∀ w, BW W w → _ := fun _ h1 w (h : BW W w) => past h (C.encode (decI v) w h h1)
  have hways := dec_ways hv
  have eF : Isw v 50 → bits .and .u32 v 267415679 = ownV v 50 := fun h => own_fence hv.1 hv.2 h
  have eT : Isw v 51 → bits .and .u32 v 4293947519 = ownV v 51 := fun h => own_tso hv.1 hv.2 h
  have eO : ∀ k, k ≠ 50 → k ≠ 51 → ownV v k = v := fun k h1 h2 => by unfold ownV; rw [if_neg h1, if_neg h2]
  have eW : encW i = if rgtB i then wordV i else 0 := rfl
  have eE : encE i = if rgtB i then 0 else 1 := rfl
  have eW2 : encW (decI v) = if rgtB (decI v) then wordV (decI v) else 0 := rfl
  have eE2 : encE (decI v) = if rgtB (decI v) then 0 else 1 := rfl
  rw [eW, eE] at KE
  rw [eW2, eE2] at KK
  clear eW eE eW2 eE2
  have HEQ := Lib.hid (fun w => run_neq_same (P := Tryd.prog) (xs := insCells i) w 23 (by kernel_rfl) (by kernel_rfl) (by kernel_rfl))
  unfold insV at KE KD KB KK ⊢
  unfold insCells at HN HW HEQ
  generalize decI v = k at *
  obtain ⟨v0, v1⟩ := hv
  -- the second half's ways, told ahead
  have h2 : (decE v = 2) ∨ (decE v = 0 ∧ k.op = 50 ∧ rgtB k = true ∧ wordV k = bits .and .u32 v 267415679) ∨ (decE v = 0 ∧ k.op = 51 ∧ rgtB k = true ∧ wordV k = bits .and .u32 v 4293947519) ∨
      (decE v = 0 ∧ k.op ≠ 50 ∧ k.op ≠ 51 ∧ I64 k.op ∧ rgtB k = true ∧ wordV k = v) := by
    rcases hways with h | ⟨h0, h1, h2, h3, h4⟩
    · exact .inl h
    · by_cases g1 : k.op = 50
      · exact .inr (.inl ⟨h0, g1, h1, by rw [h3, g1, eF (by rw [← g1]; exact h4)]⟩)
      · by_cases g2 : k.op = 51
        · exact .inr (.inr (.inl ⟨h0, g2, h1, by rw [h3, g2, eT (by rw [← g2]; exact h4)]⟩))
        · exact .inr (.inr (.inr ⟨h0, g1, g2, h2, h1, by rw [h3, eO _ g1 g2]⟩))
  clear hways eF eT eO
  have h3 : ∃ e2 x2 b0 b1, (decE v = e2) ∧ (b0 = (k.op == 50)) ∧ (b1 = (k.op == 51)) ∧ ((e2 = 2) ∨ (e2 = 0 ∧ b0 = true ∧ x2 = bits .and .u32 v 267415679) ∨ (e2 = 0 ∧ b0 = false ∧ b1 = true ∧ x2 = bits .and .u32 v 4293947519) ∨ (e2 = 0 ∧ b0 = false ∧ b1 = false ∧ x2 = v)) ∧
      (e2 = 0 → ∀ w, BW W w → Calls Tryd.prog 8 #[insV k] w fun e w' => e = .returned (.tuple #[.int .u32 x2, .int .i64 0]) ∧ BW W w' ∧ Below w.heap.size w w') := by
    rcases h2 with h | ⟨h0, h1, h2, h3⟩ | ⟨h0, h1, h2, h3⟩ | ⟨h0, h1, g1, h2, h3, h4⟩
    · exact ⟨2, 0, _, _, h, rfl, rfl, .inl rfl, fun h => absurd h (by decide)⟩
    · have K := KK h2 (by rw [h1]; exact ⟨by decide, by decide⟩)
      rw [h2, h3] at K
      exact ⟨0, _, _, _, h0, rfl, rfl, .inr (.inl ⟨rfl, by simp [h1], rfl⟩), fun _ => K⟩
    · have K := KK h2 (by rw [h1]; exact ⟨by decide, by decide⟩)
      rw [h2, h3] at K
      exact ⟨0, _, _, _, h0, rfl, rfl, .inr (.inr (.inl ⟨rfl, by simp [h1], by simp [h1], rfl⟩)), fun _ => K⟩
    · have K := KK h3 h2
      rw [h3, h4] at K
      exact ⟨0, _, _, _, h0, rfl, rfl, .inr (.inr (.inr ⟨rfl, by simpa using h1, by simpa using g1, rfl⟩)), fun _ => K⟩
  clear h2 KK
  obtain ⟨e2, x2, b0, b1, he2, hb0, hb1, hw3, K3⟩ := h3
  rw [he2] at KD
  clear he2
  unfold insV at K3
  obtain ⟨kop, krd, krs1, krs2, kimm, kaq, krl, kpred, ksucc⟩ := k
  simp only at KD K3 hb0 hb1
  cases hr : rgtB i with
  | true => as_aux_lemma =>
    rw [hr] at KE
    simp at KE
    first
    | (have KB3 := KB hr; rw [(KB2 hr).1, (KB2 hr).2] at KB3; clear KB KB2; have KB := KB3; clear KB3)
    | (clear KB KB2; have KB := trivial)
    clear hr
    generalize wordV i = wv at *
    obtain ⟨op, rd, rs1, rs2, imm, aq, rl, pred, succ⟩ := i
    simp only at KE HN HW HEQ ⊢
    try simp only at KB
    go_enter Tryd.func5, Tryd.ntmps5
    go_upto_region 1 with (fail)
    generalize W.alloc (.cells _ 23) = w1 at *
    obtain ⟨g1, hg1⟩ : ∃ g, W.heap.size = g := ⟨_, rfl⟩
    rw [hg1] at HN
    rw [hg1]
    have HG := Lib.hid hg1
    clear hg1
    go_upto_region 3 with (first
      | (go_at_call 7; refine (L _ HW).mono ?_; rintro e w2 ⟨rfl, hb2, hq⟩; have HN2 := HN.on hq; clear hq))
    clear HN HW
    go_upto_region 4 with (first
      | (with_reducible refine load_blk (o := ⟨some 16, _, _, _, _, _⟩) rfl 23 (.tmp 2) rfl HN2 rfl Tryd.underlying23 rfl (by kernel_rfl) ?_)
      | (go_at_call 8; refine (KE _ hb2).mono ?_; rintro e w3 ⟨rfl, hb3, hq⟩; have HN3 := HN2.on hq; clear hq))
    clear HN2 hb2 KE
    have heq := HEQ.out
    go_upto_region 8 with (first
      | (go_at_call 18; refine (KB _ hb3).mono ?_; rintro e w4 ⟨rfl, hb4, hq⟩; have HN4 := HN3.on hq; have hz := HN4.lt; have c0 := HN4.cell 0; have c1 := HN4.cell 1; have c2 := HN4.cell 2; have c3 := HN4.cell 3; have c4 := HN4.cell 4; have c5 := HN4.cell 5; have c6 := HN4.cell 6; have c7 := HN4.cell 7; have c8 := HN4.cell 8; simp at c0 c1 c2 c3 c4 c5 c6 c7 c8; clear hq))
    have hb8 := hb4.new (.cells #[.int .i64 op, .int .i64 rd, .int .i64 rs1, .int .i64 rs2, .int .i64 imm, .bool aq, .bool rl, .int .i64 pred, .int .i64 succ] 23)
    generalize w4.alloc _ = w8 at *
    clear c0 c1 c2 c3 c4 c5 c6 c7 c8 HN3 HN4 hz hb4 hb3 heq
    clear HEQ KB
    rcases hw3 with rfl | ⟨rfl, rfl, hx2⟩ | ⟨rfl, rfl, rfl, hx2⟩ | ⟨rfl, rfl, rfl, hx2⟩
    case inl =>
      clear hb0 hb1
      go_wp2_with (first
        | (go_at_call 18; refine (KD _ hb8).mono ?_; rintro e w9 ⟨rfl, hb9, hq⟩; clear hq)
        | (go_at_call 7; refine (L _ (hb9.new _)).mono ?_; rintro e w10 ⟨rfl, hb10, hq⟩; clear hq))
      go_ret
      exact ⟨rfl, hb10⟩
    all_goals
      have bq0 := hb0.symm
      have bq1 := hb1.symm
      have HX2 := Lib.hid hx2
      clear hx2 hb0 hb1
      have K4 := K3 rfl
      clear K3
      go_upto_region 11 with (first
        | (go_at_call 18; refine (KD _ hb8).mono ?_; rintro e w9 ⟨rfl, hb9, hq⟩; clear hq))
      have HKB := Blk.new #[.int .i64 kop, .int .i64 krd, .int .i64 krs1, .int .i64 krs2, .int .i64 kimm, .bool kaq, .bool krl, .int .i64 kpred, .int .i64 ksucc] 23 w9
      have hb10 := hb9.new (.cells #[.int .i64 kop, .int .i64 krd, .int .i64 krs1, .int .i64 krs2, .int .i64 kimm, .bool kaq, .bool krl, .int .i64 kpred, .int .i64 ksucc] 23)
      generalize w9.alloc _ = w10 at *
      obtain ⟨g9, hg9⟩ : ∃ g, w9.heap.size = g := ⟨_, rfl⟩
      rw [hg9] at HKB ⊢
      clear hg9 hb9 hb8 KD
      go_upto_region 12 with (first
        | (with_reducible refine load_blk (o := ⟨some 43, _, _, _, _, _⟩) rfl 23 (.tmp 9) rfl HKB rfl Tryd.underlying23 rfl (by kernel_rfl) ?_)
        | (go_at_call 8; refine (K4 _ hb10).mono ?_; rintro e w11 ⟨rfl, hb11, hq⟩; have HK11 := HKB.on hq; have q0 := HK11.cell 0; simp at q0; clear hq))
      go_wp2_with (first
        | (go_at_call 7; refine (L _ hb11).mono ?_; rintro e w12 ⟨rfl, hb12, hq⟩; clear hq))
      go_ret
      exact ⟨ret_bool (by rw [HX2.out]; simp), hb12⟩
  | false => as_aux_lemma =>
    rw [hr] at KE
    simp at KE
    first
    | (have KB3 := KB hr; rw [(KB2 hr).1, (KB2 hr).2] at KB3; clear KB KB2; have KB := KB3; clear KB3)
    | (clear KB KB2; have KB := trivial)
    clear hr
    generalize wordV i = wv at *
    obtain ⟨op, rd, rs1, rs2, imm, aq, rl, pred, succ⟩ := i
    simp only at KE HN HW HEQ ⊢
    try simp only at KB
    go_enter Tryd.func5, Tryd.ntmps5
    go_upto_region 1 with (fail)
    generalize W.alloc (.cells _ 23) = w1 at *
    obtain ⟨g1, hg1⟩ : ∃ g, W.heap.size = g := ⟨_, rfl⟩
    rw [hg1] at HN
    rw [hg1]
    have HG := Lib.hid hg1
    clear hg1
    go_upto_region 3 with (first
      | (go_at_call 7; refine (L _ HW).mono ?_; rintro e w2 ⟨rfl, hb2, hq⟩; have HN2 := HN.on hq; clear hq))
    clear HN HW
    go_upto_region 4 with (first
      | (with_reducible refine load_blk (o := ⟨some 16, _, _, _, _, _⟩) rfl 23 (.tmp 2) rfl HN2 rfl Tryd.underlying23 rfl (by kernel_rfl) ?_)
      | (go_at_call 8; refine (KE _ hb2).mono ?_; rintro e w3 ⟨rfl, hb3, hq⟩; have HN3 := HN2.on hq; clear hq))
    clear HN2 hb2 KE
    go_upto_region 8 with (fail)
    have hb8 := hb3
    clear hb3 HN3
    clear HEQ KB
    rcases hw3 with rfl | ⟨rfl, rfl, hx2⟩ | ⟨rfl, rfl, rfl, hx2⟩ | ⟨rfl, rfl, rfl, hx2⟩
    case inl =>
      clear hb0 hb1
      go_wp2_with (first
        | (go_at_call 18; refine (KD _ hb8).mono ?_; rintro e w9 ⟨rfl, hb9, hq⟩; clear hq)
        | (go_at_call 7; refine (L _ (hb9.new _)).mono ?_; rintro e w10 ⟨rfl, hb10, hq⟩; clear hq))
      go_ret
      exact ⟨rfl, hb10⟩
    all_goals
      have bq0 := hb0.symm
      have bq1 := hb1.symm
      have HX2 := Lib.hid hx2
      clear hx2 hb0 hb1
      have K4 := K3 rfl
      clear K3
      go_upto_region 11 with (first
        | (go_at_call 18; refine (KD _ hb8).mono ?_; rintro e w9 ⟨rfl, hb9, hq⟩; clear hq))
      have HKB := Blk.new #[.int .i64 kop, .int .i64 krd, .int .i64 krs1, .int .i64 krs2, .int .i64 kimm, .bool kaq, .bool krl, .int .i64 kpred, .int .i64 ksucc] 23 w9
      have hb10 := hb9.new (.cells #[.int .i64 kop, .int .i64 krd, .int .i64 krs1, .int .i64 krs2, .int .i64 kimm, .bool kaq, .bool krl, .int .i64 kpred, .int .i64 ksucc] 23)
      generalize w9.alloc _ = w10 at *
      obtain ⟨g9, hg9⟩ : ∃ g, w9.heap.size = g := ⟨_, rfl⟩
      rw [hg9] at HKB ⊢
      clear hg9 hb9 hb8 KD
      go_upto_region 12 with (first
        | (with_reducible refine load_blk (o := ⟨some 43, _, _, _, _, _⟩) rfl 23 (.tmp 9) rfl HKB rfl Tryd.underlying23 rfl (by kernel_rfl) ?_)
        | (go_at_call 8; refine (K4 _ hb10).mono ?_; rintro e w11 ⟨rfl, hb11, hq⟩; have HK11 := HKB.on hq; have q0 := HK11.cell 0; simp at q0; clear hq))
      go_wp2_with (first
        | (go_at_call 7; refine (L _ hb11).mono ?_; rintro e w12 ⟨rfl, hb12, hq⟩; clear hq))
      go_ret
      exact ⟨ret_bool (by rw [HX2.out]; simp), hb12⟩
end Go.Proofs.YtlmllpielifepaaDoor
namespace Go.Proofs.YtlmllpielifepaaDoor
open Go.RowKit

theorem unlike_same {i k : Ins} (hi : Rgt i) (hk : Rgt k) : (wordV i == wordV k) = eqB i k := by
  rw [Bool.eq_iff_iff, eqB_iff, beq_iff_eq]
  constructor
  · intro h
    have h1 := (opW_back hi).1
    have h2 := (opW_back hk).1
    rw [h] at h1
    exact h1.symm.trans h2
  · intro h; rw [h]
set_option maxHeartbeats 1000000 in
theorem unlike_law {W : World} (C : Cenc W) (i k : Ins) (ho : I64 i.op) (ho2 : I64 k.op) :
    Calls Tryd.prog 6 #[insV i, insV k] W fun e w' => e = .returned (.bool true) ∧ Below W.heap.size W w' := by
  have HN0 := Blk.new (insCells i) 23 W
  have HN1 := HN0.alloc (.cells (insCells k) 23)
  have HK1 := Blk.new (insCells k) 23 (W.alloc (.cells (insCells i) 23))
  have HW : BW W ((W.alloc (.cells (insCells i) 23)).alloc (.cells (insCells k) 23)) := BW.new (BW.new (Below.refl _ _) _) _
  have hsz : (W.alloc (.cells (insCells i) 23)).heap.size = W.heap.size + 1 := by simp
  rw [hsz] at HK1
  have L := fun w (h : BW W w) => alive7_any C w h
  have KE := fun w (h : BW W w) => past h (C.encode i w h ho)
  have KF := fun w (h : BW W w) => past h (C.encode k w h ho2)
  have eW : encW i = if rgtB i then wordV i else 0 := rfl
  have eE : encE i = if rgtB i then 0 else 1 := rfl
  have eW2 : encW k = if rgtB k then wordV k else 0 := rfl
  have eE2 : encE k = if rgtB k then 0 else 1 := rfl
  rw [eW, eE] at KE
  rw [eW2, eE2] at KF
  clear eW eE eW2 eE2 HN0 hsz
  have hq := fun w => run_eql_ins i k w
  have hU : rgtB i = true → rgtB k = true → (wordV i == wordV k) = eqB i k := fun h1 h2 => unlike_same ((rgt_iff i).1 h1) ((rgt_iff k).1 h2)
  unfold insV at KE KF ⊢
  unfold insCells at HN1 HK1 HW hq
  cases h1 : rgtB i <;> cases h2 : rgtB k <;> cases hb : eqB i k
  all_goals
    rw [h1] at KE
    rw [h2] at KF
    rw [hb] at hq hU
    have HU := Lib.hid hU
    have H1 := Lib.hid h1
    have H2 := Lib.hid h2
    clear hU h1 h2 hb
    simp at KE KF
    first
    | (have hxy := HU.out H1.out H2.out)
    | (have hxy := trivial)
    clear HU H1 H2
    generalize wordV i = wi at *
    generalize wordV k = wk at *
    obtain ⟨op, rd, rs1, rs2, imm, aq, rl, pred, succ⟩ := i
    obtain ⟨kop, krd, krs1, krs2, kimm, kaq, krl, kpred, ksucc⟩ := k
    simp only at KE KF HN1 HK1 HW hq ⊢
    have HQ := Lib.hid hq
    clear hq
    go_enter Tryd.func6, Tryd.ntmps6
    go_upto_region 1 with (fail)
    generalize (W.alloc (.cells _ 23)).alloc (.cells _ 23) = w1 at *
    obtain ⟨g1, hg1⟩ : ∃ g, W.heap.size = g := ⟨_, rfl⟩
    rw [hg1] at HN1 HK1
    rw [hg1]
    have HG := Lib.hid hg1
    clear hg1
    go_upto_region 3 with (first
      | (go_at_call 7; refine (L _ HW).mono ?_; rintro e w2 ⟨rfl, hb2, hq⟩; have HN2 := HN1.on hq; have HK2 := HK1.on hq; clear hq))
    clear HN1 HK1 HW
    go_upto_region 4 with (first
      | (with_reducible refine load_blk (o := ⟨some 12, _, _, _, _, _⟩) rfl 23 (.tmp 2) rfl HN2 rfl Tryd.underlying23 rfl (by kernel_rfl) ?_)
      | (go_at_call 8; refine (KE _ hb2).mono ?_; rintro e w3 ⟨rfl, hb3, hq⟩; have HN3 := HN2.on hq; have HK3 := HK2.on hq; clear hq))
    clear HN2 HK2 hb2 KE
    go_upto_region 5 with (first
      | (with_reducible refine load_blk (o := ⟨some 17, _, _, _, _, _⟩) rfl 23 (.tmp 3) rfl HK3 rfl Tryd.underlying23 rfl (by kernel_rfl) ?_)
      | (go_at_call 8; refine (KF _ hb3).mono ?_; rintro e w4 ⟨rfl, hb4, hq⟩; have HN4 := HN3.on hq; have HK4 := HK3.on hq; clear hq))
    clear HN3 HK3 hb3 KF
    have hq := HQ.out
    go_wp2_with (first
      | (go_at_call 7; refine (L _ hb4).mono ?_; rintro e w5 ⟨rfl, hb5, hqq⟩; have HN5 := HN4.on hqq; have HK5 := HK4.on hqq; have a0 := HN5.cell 0; have a1 := HN5.cell 1; have a2 := HN5.cell 2; have a3 := HN5.cell 3; have a4 := HN5.cell 4; have a5 := HN5.cell 5; have a6 := HN5.cell 6; have a7 := HN5.cell 7; have a8 := HN5.cell 8; simp at a0 a1 a2 a3 a4 a5 a6 a7 a8; have b0 := HK5.cell 0; have b1 := HK5.cell 1; have b2 := HK5.cell 2; have b3 := HK5.cell 3; have b4 := HK5.cell 4; have b5 := HK5.cell 5; have b6 := HK5.cell 6; have b7 := HK5.cell 7; have b8 := HK5.cell 8; simp at b0 b1 b2 b3 b4 b5 b6 b7 b8; clear hqq HN5 HK5))
    go_ret
    exact ⟨ret_bool (by first | rfl | (rw [hxy]; rfl) | simp [hxy]), hb5⟩
end Go.Proofs.YtlmllpielifepaaDoor
namespace Go.Proofs.YtlmllpielifepaaDoor
open Go.RowKit

/-- The bytes of instructions' words. -/
def progB (l : List Ins) : List Int := l.flatMap fun i => bytesL (wordV i) 4
def allB (l : List Ins) : Bool := l.all rgtB
theorem progB_len (l : List Ins) : (progB l).length = l.length * 4 := by
  induction l with
  | nil => rfl
  | cons p l ih => unfold progB at *; rw [List.flatMap_cons, List.length_append, ih, List.length_cons, bytesL_length]; omega
theorem progB_snoc (l : List Ins) (i : Ins) : progB (l ++ [i]) = progB l ++ bytesL (wordV i) 4 := by unfold progB; simp
theorem progB_byts (l : List Ins) : Byts (progB l) := by
  intro z hz
  unfold progB at hz
  obtain ⟨i, _, hi⟩ := List.mem_flatMap.1 hz
  exact byts_bytesL _ _ z hi
theorem word_bytes {x : Int} (h0 : 0 ≤ x) (h1 : x < 4294967296) : byteAt x 0 + 256 * byteAt x 1 + 65536 * byteAt x 2 + 16777216 * byteAt x 3 = x := by
  unfold byteAt
  simp
  omega
theorem word4_prog {l : List Ins} {k : Nat} (hk : k < l.length) (h : Rgt l[k]) : word4 (progB l) (4 * k) = wordV l[k] := by
  have hd : ∀ j, j < 4 → (progB l).getD (4 * k + j) 0 = byteAt (wordV l[k]) j := by
    clear h
    induction l generalizing k with
    | nil => cases hk
    | cons p l ih =>
      intro j hj
      have e : progB (p :: l) = bytesL (wordV p) 4 ++ progB l := rfl
      have hl : (bytesL (wordV p) 4).length = 4 := bytesL_length _ _
      rw [e, List.getD_eq_getElem?_getD]
      cases k with
      | zero =>
        rw [List.getElem?_append_left (by omega)]
        unfold bytesL
        rw [List.getElem?_map, List.getElem?_range (by omega)]
        simp
      | succ k =>
        rw [List.getElem?_append_right (by omega), hl, show 4 * (k + 1) + j - 4 = 4 * k + j by omega, ← List.getD_eq_getElem?_getD]
        have := ih (k := k) (by simpa using hk) j hj
        simpa using this
  obtain ⟨hr, _⟩ := enc_dec h
  unfold word4
  rw [← Nat.add_zero (4 * k), hd 0 (by decide), Nat.add_zero, hd 1 (by decide), hd 2 (by decide), hd 3 (by decide)]
  exact word_bytes hr.1 hr.2
theorem list_prog {l : List Ins} (h : allB l = true) : lstI (progB l) = l := by
  unfold lstI lstK
  rw [progB_len, Nat.mul_div_cancel _ (by decide : 0 < 4)]
  apply List.ext_getElem
  · simp
  · intro k h1 h2
    have hr : Rgt l[k] := (rgt_iff _).1 (List.all_eq_true.1 h _ (List.getElem_mem h2))
    simp only [List.getElem_map, List.getElem_range]
    rw [word4_prog h2 hr]
    exact (opW_back hr).1
end Go.Proofs.YtlmllpielifepaaDoor
namespace Go.Proofs.YtlmllpielifepaaDoor
open Go.RowKit

def RetP (w : World) (l : List Ins) (e : Ending) (w' : World) : Prop :=
  ∃ A cap bs er, e = .returned (.tuple #[.slice A (List.length bs) cap, .int .i64 er]) ∧ (List.length bs ≤ cap ∧ cap ≤ 9223372036854775807) ∧ Rd w' w'.heap.size A (cellsB bs) ∧ Below w.heap.size w w' ∧ ((allB l = true ∧ er = 0 ∧ bs = progB l) ∨ (allB l = false ∧ er = 1 ∧ bs = []))
/-- What is asked of the program's Program, in every world behind W. -/
def AskProgram (W : World) : Prop := ∀ A cap (l : List Ins) w, BW W w → Rd w w.heap.size A (cellsN l) → (∀ i ∈ l, I64 i.op) → l.length ≤ 1000 → Calls Tryd.prog 12 #[.slice A l.length cap] w (RetP w l)
theorem allB_snoc (l : List Ins) (i : Ins) : allB (l ++ [i]) = (allB l && rgtB i) := by unfold allB; simp
theorem Rd.now {W w : World} {A : Option Addr} {xs : List Value} (h : Rd W W.heap.size A xs) (hb : BW W w) : Rd w w.heap.size A xs := (h.below hb).mono (Below.size hb)
/-- Four bytes came, in a block of theirs. -/
def Ret4 (v : Int) (w : World) (e : Ending) (w' : World) : Prop := ∃ ad c, e = .returned (.slice (some ad) 4 c) ∧ (∀ j u, (cellsB (bytesL v 4))[j]? = some u → w'.cell? (ad.add j) = some u) ∧ Below w.heap.size w w'
theorem RetB.four {v : Int} {w : World} {e : Ending} {w' : World} (h : RetB w (bytesL v (cap8 4)) e w') : Ret4 v w e w' := by
  obtain ⟨A, c, he, hr, hb⟩ := h
  rw [show cap8 4 = 4 by decide] at he hr
  rw [bytesL_length] at he
  rcases hr with hr | ⟨b, off, rfl, _, hc⟩
  · have := congrArg List.length hr; unfold cellsB at this; rw [List.length_map, bytesL_length] at this; cases this
  · refine ⟨_, c, he, fun j u hu => ?_, hb⟩
    have hadd : (⟨b, off, none⟩ : Addr).add j = ⟨b, off + j, none⟩ := by unfold Addr.add; split <;> simp_all
    rw [hadd]
    exact hc j u hu
theorem cellsB_one (l : List Int) : ∀ u ∈ cellsB l, u.oneCell' = true := by
  intro u hu
  unfold cellsB at hu
  obtain ⟨p, _, rfl⟩ := List.mem_map.1 hu
  rfl
set_option maxHeartbeats 2000000 in
theorem programs_law {W : World} (C : Cenc W) (PR : AskProgram W) (A : Option Addr) (cap : Nat) (l : List Ins) (B : Option Addr) (bap : Nat) (bs : List Int) (hl : l.length ≤ 9223372036854775807) (hbl : bs.length ≤ bap) (hbc : bap ≤ 9223372036854775807)
    (hr : Rd W W.heap.size A (cellsN l)) (hrb : Rd W W.heap.size B (cellsB bs)) (ho : ∀ i ∈ l, I64 i.op) (hby : Byts bs) :
    Calls Tryd.prog 4 #[.slice A l.length cap, .slice B bs.length bap] W fun e w' => e = .returned (.bool true) ∧ Below W.heap.size W w' := by
  have L := fun w (h : BW W w) => alive7_any C w h
  have HR := Lib.hid hr
  have HRB := Lib.hid hrb
  have HBL := Lib.hid hbl
  have HBC := Lib.hid hbc
  have HBY := Lib.hid hby
  have HOO := Lib.hid ho
  have HB0 : BW W W := Below.refl _ _
  clear hr hrb hby ho hbl hbc
  go_enter Tryd.func4, Tryd.ntmps4
  go_upto_region 3 with (first
    | (go_at_call 7; refine (L _ HB0).mono ?_; rintro e w1 ⟨rfl, hb1, hq⟩; clear hq))
  have hc : 1000 < l.length ∨ (l.length ≤ 1000 ∧ 4000 < bs.length) ∨ (l.length ≤ 1000 ∧ bs.length ≤ 4000) := by omega
  rcases hc with h1 | ⟨h1, h2⟩ | ⟨h1, h2⟩
  · have h1' : (1000 : Int) < l.length := by omega
    go_wp2_with (first
      | (go_at_call 7; refine (L _ hb1).mono ?_; rintro e w2 ⟨rfl, hb2, hq⟩; clear hq))
    go_ret
    exact ⟨rfl, hb2⟩
  · have h1' : (l.length : Int) ≤ 1000 := by omega
    have h2' : (4000 : Int) < bs.length := by omega
    go_wp2_with (first
      | (go_at_call 7; refine (L _ hb1).mono ?_; rintro e w2 ⟨rfl, hb2, hq⟩; clear hq))
    go_ret
    exact ⟨rfl, hb2⟩
  · have h1' : (l.length : Int) ≤ 1000 := by omega
    have h2' : (bs.length : Int) ≤ 4000 := by omega
    have KP := PR A cap l w1 hb1 (HR.out.now hb1) HOO.out h1
    go_upto_region 6 with (first
      | (go_at_call 12; refine KP.mono ?_; rintro e w2 ⟨A1, c1, pb, er, rfl, ⟨hpc, hpc2⟩, hp, hq, hpb⟩; have HPB := Lib.hid hpb; clear hpb))
    have hb2 := hb1.on hq
    have HP := Lib.hid hp
    have HPC := Lib.hid hpc
    have HPC2 := Lib.hid hpc2
    clear hpc hpc2
    clear hp hq KP hb1
    go_wp2
    go_loopw [7, 8, 9] (fun v7 v8 v9 wr => BW w2 wr ∧ ∃ (k : Nat) (ok : Bool) (m : Nat) (xs : List Value), v9 = .int .i64 k ∧ v8 = .bool ok ∧ k ≤ l.length ∧ m ≤ 4 * k ∧ Hid (ok = allB (l.take k)) ∧
      Hid (wr.ownsRow w2.heap.size 5 1 v7 m xs) ∧ Hid (ok = true → xs = cellsB (progB (l.take k)))) (fun _ _ v9 _ => l.length - (intOf v9).toNat)
    case atStart => exact ⟨Below.refl _ _, 0, true, 0, [], rfl, rfl, by omega, by omega, (show Hid _ from rfl), (show Hid _ from World.ownsRow_nil _ _ _ _), (show Hid _ from fun _ => rfl)⟩
    case round =>
      obtain ⟨gb3, k, ok, m, xs, rfl, rfl, hk, hm, HOK, HOW, HXS⟩ := hrel
      obtain ⟨w3, rfl⟩ : ∃ w3 : World, w3 = wr := ⟨_, rfl⟩
      have hbw := hb2.on gb3
      by_cases hlt : k < l.length
      · have hltI : (k : Int) < l.length := by omega
        obtain ⟨b, off, rfl, hblt, d0, d1, d2, d3, d4, d5, d6, d7, d8⟩ := HR.out.ins hlt
        have hcc := fun o => Below.cell hbw (p := ⟨b, o, none⟩) hblt
        have hsx : allB (l.take (k + 1)) = (allB (l.take k) && rgtB l[k]) := by rw [List.take_succ_eq_append_getElem hlt, allB_snoc]
        have hpx : progB (l.take (k + 1)) = progB (l.take k) ++ bytesL (wordV l[k]) 4 := by rw [List.take_succ_eq_append_getElem hlt, progB_snoc]
        have hox := HOO.out _ (List.getElem_mem hlt)
        generalize l[k] = x at *
        have c0 := (hcc _).trans d0
        have c1 := (hcc _).trans d1
        have c2 := (hcc _).trans d2
        have c3 := (hcc _).trans d3
        have c4 := (hcc _).trans d4
        have c5 := (hcc _).trans d5
        have c6 := (hcc _).trans d6
        have c7 := (hcc _).trans d7
        have c8 := (hcc _).trans d8
        have HSX := Lib.hid hsx
        have HPX := Lib.hid hpx
        clear d0 d1 d2 d3 d4 d5 d6 d7 d8 hcc hsx hpx
        cases ok
        case false =>
          go_wp2
          go_roundw
          case rel => exact ⟨gb3, k + 1, false, m, xs, by go_num, rfl, by omega, by omega, (show Hid _ from by show _ = _; rw [HSX.out, ← HOK.out]; rfl), HOW, (show Hid _ from fun h => (by cases h))⟩
          case measure => simp [intOf]; omega
        case true =>
          have KD := fun w (h : BW W w) => past h (right_any x hox w)
          unfold insV at KD
          cases hrx : rgtB x
          case false =>
            rw [hrx] at KD
            have HRX := Lib.hid hrx
            clear hrx
            go_wp2_with (first
              | (go_at_call 9; refine (KD _ hbw).mono ?_; rintro e w4 ⟨rfl, hb4, hq⟩; have gb4 : BW w2 w4 := gb3.on hq; have HO4 : Hid (w4.ownsRow w2.heap.size 5 1 u7 m xs) := (row_on HOW.out hq); clear hq))
            go_roundw
            case rel => exact ⟨gb4, k + 1, false, m, xs, by go_num, rfl, by omega, by omega, (show Hid _ from by show _ = _; rw [HSX.out, HRX.out]; simp), HO4, (show Hid _ from fun h => (by cases h))⟩
            case measure => simp [intOf]; omega
          case true =>
            have hrg := (rgt_iff x).1 hrx
            have hwr := (enc_dec hrg).1
            have KO := fun w (h : BW W w) => past h (word_any x hrg w)
            rw [hrx] at KD
            have HRX := Lib.hid hrx
            clear hrx hrg
            unfold insV at KO
            obtain ⟨wv, hwv⟩ : ∃ z, wordV x = z := ⟨_, rfl⟩
            rw [hwv] at KO hwr
            have HWV := Lib.hid hwv
            clear hwv
            obtain ⟨hw0, hw1⟩ := hwr
            have KY := fun w1 => (rbytes_any wv 4 hw0 (by omega) w1).mono fun e w' hh => RetB.four hh
            have hbw3 : b < w3.heap.size := Nat.lt_of_lt_of_le hblt (Below.size hbw)
            obtain ⟨i0, hi, hz0, hz1, hz2⟩ := info_parts Tryd.info5
            go_wp2_with (first
              | (go_at_call 9; refine (KD _ hbw).mono ?_; rintro e w4 ⟨rfl, hb4, hq⟩; have gb4 : BW w2 w4 := gb3.on hq; have HO4 : Hid (w4.ownsRow w2.heap.size 5 1 u7 m xs) := (row_on HOW.out hq); have hcc := fun o => Below.cell hq (p := ⟨b, o, none⟩) hbw3; have e0 := (hcc _).trans c0; have e1 := (hcc _).trans c1; have e2 := (hcc _).trans c2; have e3 := (hcc _).trans c3; have e4 := (hcc _).trans c4; have e5 := (hcc _).trans c5; have e6 := (hcc _).trans c6; have e7 := (hcc _).trans c7; have e8 := (hcc _).trans c8; clear hq hcc)
              | (go_at_call 11; refine (KO _ hb4).mono ?_; rintro e w5 ⟨rfl, hb5, hq⟩; have gb5 : BW w2 w5 := gb4.on hq; have HO5 : Hid (w5.ownsRow w2.heap.size 5 1 u7 m xs) := (row_on HO4.out hq); clear hq)
              | (go_at_call 13; refine (KY _).mono ?_; rintro e w6 ⟨ad, c2, rfl, hcell, hq⟩; have hb6 := hb5.on hq; have gb6 : BW w2 w6 := gb5.on hq; have HO6 : Hid (w6.ownsRow w2.heap.size 5 1 u7 m xs) := (row_on HO5.out hq); have HCE := Lib.hid hcell; clear hq hcell)
              | (at_builtin; refine wpList_append_own _ rfl _ _ 32 rfl w2.heap.size 5 i0 (.int .u8 0) 1 1 Tryd.underlying32 hi hz0 hz1 hz2 rfl (by decide) _ m xs rfl HO6.out ad 4 c2 (cellsB (bytesL wv 4)) rfl (by unfold cellsB; rw [List.length_map, bytesL_length]) HCE.out (cellsB_one _) (by unfold maxLen; omega) (by omega) (Below.size gb6) ?_))
            intro v7 w7 hown hgrow hnn
            clear hnn
            have gb7 : BW w2 w7 := Below.grown gb6 hgrow (Below.size gb6) (fun q hq => (HO6.out.lt q hq).1)
            have HO7 := Lib.hid hown
            clear hown hgrow
            go_wp2
            go_roundw
            case rel =>
              refine ⟨gb7, k + 1, true, m + 4, xs ++ cellsB (bytesL wv 4), by go_num, rfl, by omega, by omega, (show Hid _ from by show _ = _; rw [HSX.out, HRX.out, ← HOK.out]; rfl), HO7, (show Hid _ from fun _ => ?_)⟩
              rw [HPX.out, HWV.out, HXS.out (by first | rfl | trivial)]
              unfold cellsB
              rw [List.map_append]
            case measure => simp [intOf]; omega
      · obtain rfl : k = l.length := by omega
        rw [List.take_length] at HOK HXS
        have HRBN := Lib.hid (HRB.out.now hbw)
        have HLN := Lib.hid (HR.out.now hbw)
        have CL := C.on hbw
        have KL := CL.list B bap bs w3 (Below.refl _ _) HRBN.out HBY.out (by omega) HBL.out HBC.out
        have KR := fun w4 (h : BW W w4) => rlist_any B bap bs w4 HBY.out (by omega) (HRB.out.now h)
        have KS := fun A4 A5 c4 c5 w5 (hr : Rd w5 w5.heap.size A4 (cellsN (lstI bs))) (hr' : Rd w5 w5.heap.size A5 (cellsN (lstI bs))) => sameN_any A4 A5 c4 c5 (lstI bs) (lstI bs) w5 (by unfold lstI; rw [lstK_len]; omega) hr hr' true (by simp)
        go_upto_region 16 with (first
          | (go_at_call 15; refine KL.mono ?_; rintro e w4 ⟨A4, c4, rfl, hp4, hq4⟩; have hb4 := hbw.on hq4; have gb4 := gb3.on hq4; have t4 : BW w3 w4 := hq4; have HP4 := Lib.hid hp4; clear hp4 hq4)
          | (go_at_call 16; refine (KR _ hb4).mono ?_; rintro e w5 ⟨A5, c5, rfl, hp5, hq5⟩; have hb5 := hb4.on hq5; have gb5 := gb4.on hq5; have t5 := t4.on hq5; have HP45 := Lib.hid ((HP4.out.below hq5).mono hq5.size); have HP5 := Lib.hid hp5; clear hp5 hq5)
          | (go_at_call 14; refine (KS _ _ _ _ _ HP45.out HP5.out).mono ?_; rintro e w6 ⟨rfl, hq6⟩; have hb6 := hb5.on hq6; have gb6 := gb5.on hq6; have t6 := t5.on hq6; clear hq6))
        clear KL KR KS HRBN HLN CL
        rcases HPB.out with ⟨ha, rfl, rfl⟩ | ⟨ha, rfl, rfl⟩
        · have hok : ok = true := by rw [HOK.out]; exact ha
          subst hok
          have hxs := HXS.out rfl
          obtain ⟨Aw, cw, huw, hrw⟩ := own_form HOW.out
          have hm4 : m = (progB l).length := by
            have := HOW.out.1
            rw [hxs] at this
            unfold cellsB at this
            rw [List.length_map] at this
            omega
          rw [hxs] at hrw
          subst huw
          rw [hm4]
          have HRW := Lib.hid hrw
          have HLIST := Lib.hid (list_prog ha)
          have hplen : (progB l).length ≤ 4000 := by rw [progB_len]; omega
          have KSB := fun w7 (h3 : BW w3 w7) (h2 : BW w2 w7) => same_any A1 Aw c1 cw (progB l) (progB l) w7 (by omega) (HP.out.now h2) (HRW.out.now h3)
          have KLP := fun w7 (h : BW W w7) (h2 : BW w2 w7) => C.list A1 c1 (progB l) w7 h (HP.out.now h2) (progB_byts l) (by omega) HPC.out HPC2.out
          have KSL := fun A8 c8 w9 (h : BW W w9) (hr : Rd w9 w9.heap.size A8 (cellsN (lstI (progB l)))) => sameN_any A8 A c8 cap (lstI (progB l)) l w9 (by rw [HLIST.out]; omega) hr (HR.out.now h) true (by rw [HLIST.out]; simp)
          simp only at KSB
          clear hxs hrw hm4 HOW HXS HOK ha
          generalize progB l = pb at *
          go_wp2_with (first
            | (go_at_call 7; refine (L _ hb6).mono ?_; rintro e w7 ⟨rfl, hb7, hq⟩; have gb7 := gb6.on hq; have t7 := t6.on hq; clear hq)
            | (go_at_call 17; refine (KSB _ t7 gb7).mono ?_; rintro e w8 ⟨rfl, hq⟩; have hb8 := hb7.on hq; have gb8 := gb7.on hq; clear hq)
            | (go_at_call 15; refine (KLP _ hb8 gb8).mono ?_; rintro e w9 ⟨A8, c8, rfl, hp9, hq⟩; have hb9 := hb8.on hq; have HP9 := Lib.hid hp9; clear hp9 hq)
            | (go_at_call 14; refine (KSL _ _ _ hb9 HP9.out).mono ?_; rintro e w10 ⟨rfl, hq⟩; have hb10 := hb9.on hq; clear hq))
          go_ret
          exact ⟨rfl, hb10⟩
        · have hok : ok = false := by rw [HOK.out]; exact ha
          subst hok
          go_wp2_with (first
            | (go_at_call 7; refine (L _ hb6).mono ?_; rintro e w7 ⟨rfl, hb7, hq⟩; clear hq))
          go_ret
          exact ⟨rfl, hb7⟩
end Go.Proofs.YtlmllpielifepaaDoor
