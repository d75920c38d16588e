/- The document's Read. -/
import Derived.Test.YtdpbiboldmoadaaDoorKc
import Derived.Test.YtdpbiboldmoadaaDoorRw9
import Derived.Test.YtdpbiboldmoadaaDoorRv9
import Derived.Deep.Cut
import Derived.Deep.CutRange
import Derived.Deep.LoopGhost
set_option maxRecDepth 100000
namespace Go.Proofs.YtdpbiboldmoadaaDoor
open Go.RowKit

/-! ### A word's step, in parts -/
def i2S (op : Int) (o : Option Int) (regs : Int) (i : Ins) : Ins := match o with | some r => putR op (regs + 1) r i | none => i
def g2S (o : Option Int) (regs : Int) : Int := if o.isSome then regs + 1 else regs
def i3S (op : Int) (o : Option Int) (nums : Int) (i : Ins) : Ins := match o with | some x => if op = 50 then i else if nums + 1 = 1 then { i with imm := x } else i | none => i
def n3S (op : Int) (o : Option Int) (nums : Int) : Int := match o with | some _ => if op = 50 then nums else nums + 1 | none => nums
theorem step_eq (op : Int) (n : Nat) (q : List UInt8) (s : RdS) : stepR op n q s = ⟨i3S op (numV q) s.nums (i2S op (regS q) s.regs (setR op n q s.i)), g2S (regS q) s.regs, n3S op (numV q) s.nums⟩ := by
  unfold stepR i2S g2S i3S n3S
  cases regS q <;> cases numV q
  · rfl
  · simp only
    by_cases h : op = 50
    · simp [h]
    · simp [h]
  · rfl
  · simp only
    by_cases h : op = 50
    · simp [h]
    · simp [h]
theorem put_0 {op regs r : Int} {i : Ins} (h : ¬ ((regs = 1 ∧ srt op = 3) ∨ (regs = 2 ∧ (op = 4 ∨ srt op = 4 ∨ srt op = 5 ∨ srt op = 6 ∨ srt op = 7 ∨ srt op = 10)) ∨ (regs = 3 ∧ 10 < srt op)))
    (h' : ¬ ((regs = 1 ∧ srt op = 5) ∨ (regs = 2 ∧ (srt op = 3 ∨ 10 < srt op)) ∨ (regs = 3 ∧ srt op = 7))) (h1 : regs ≠ 1) : putR op regs r i = i := by
  unfold putR
  rw [if_neg h, if_neg h', if_neg h1]
theorem putR_op (op regs r : Int) (i : Ins) : (putR op regs r i).op = i.op := by
  unfold putR
  (repeat' split) <;> rfl
theorem step_op (op : Int) (n : Nat) (q : List UInt8) (s : RdS) : (stepR op n q s).i.op = s.i.op := by
  rw [step_eq]
  have h1 : (setR op n q s.i).op = s.i.op := by unfold setR; (repeat' split) <;> rfl
  have h2 : ∀ i, (i2S op (regS q) s.regs i).op = i.op := by
    intro i
    unfold i2S
    split
    · exact putR_op _ _ _ _
    · rfl
  have h3 : ∀ i, (i3S op (numV q) s.nums i).op = i.op := by intro i; unfold i3S; (repeat' split) <;> rfl
  simp only
  rw [h3, h2, h1]
/-! ### All candidates -/
def cand (ws : List (List UInt8)) (p : Nat) : Ins := readR ((p / 4 : Nat) + 1) (decide (p % 4 % 2 = 1)) (decide (1 < p % 4)) ws
def NoF (S : List UInt8) (m : Nat) : Prop := ∀ p, p < m → ¬ (Rgt (cand (wordsT S) p) ∧ textT (cand (wordsT S) p) = S)
theorem nf_end {S : List UInt8} (h : NoF S 300) : readC S = none := by
  cases hr : readC S with
  | none => rfl
  | some j =>
    exfalso
    obtain ⟨hR, ht⟩ := readC_sound hr
    have hj := read_text hR
    rw [ht] at hj
    have hop := hR.op
    have key : ∀ p : Nat, p < 300 → ((p / 4 : Nat) : Int) + 1 = j.op → decide (p % 4 % 2 = 1) = j.aq → decide (1 < p % 4) = j.rl → False := fun p hp h1 h2 h3 => by
      refine h p hp ?_
      unfold cand
      rw [h1, h2, h3, hj]
      exact ⟨hR, ht⟩
    cases ha : j.aq <;> cases hl : j.rl
    · refine key ((j.op.toNat - 1) * 4) (by omega) (by omega) ?_ ?_
      · rw [ha]; exact decide_eq_false (by omega)
      · rw [hl]; exact decide_eq_false (by omega)
    · refine key ((j.op.toNat - 1) * 4 + 2) (by omega) (by omega) ?_ ?_
      · rw [ha]; exact decide_eq_false (by omega)
      · rw [hl]; exact decide_eq_true (by omega)
    · refine key ((j.op.toNat - 1) * 4 + 1) (by omega) (by omega) ?_ ?_
      · rw [ha]; exact decide_eq_true (by omega)
      · rw [hl]; exact decide_eq_false (by omega)
    · refine key ((j.op.toNat - 1) * 4 + 3) (by omega) (by omega) ?_ ?_
      · rw [ha]; exact decide_eq_true (by omega)
      · rw [hl]; exact decide_eq_true (by omega)
theorem nf_next {S : List UInt8} {m : Nat} (h : NoF S m) (hm : ¬ (Rgt (cand (wordsT S) m) ∧ textT (cand (wordsT S) m) = S)) : NoF S (m + 1) := fun p hp => by
  rcases Nat.lt_succ_iff_lt_or_eq.1 hp with h1 | rfl
  · exact h p h1
  · exact hm
theorem cand_at (ws : List (List UInt8)) (m a : Nat) (ha : a < 4) : cand ws (4 * m + a) = readR ((m : Int) + 1) (decide (a % 2 = 1)) (decide (1 < a)) ws := by
  unfold cand
  rw [show (4 * m + a) / 4 = m by omega, show (4 * m + a) % 4 = a by omega]
theorem wordsA_len (s : List UInt8) : ∀ w, (wordsA s w).length ≤ s.length + 1 := by
  have hp : ∀ w : List UInt8, (putW w).length ≤ 1 := fun w => by unfold putW; split <;> simp
  induction s with
  | nil => intro w; exact hp w
  | cons c s ih =>
    intro w
    rw [wordsA]
    split
    · have := ih (w ++ [c]); simp; omega
    · have := ih []; have := hp w; rw [List.length_append]; simp; omega
theorem wordsA_each (s : List UInt8) : ∀ w, ∀ x ∈ wordsA s w, x.length ≤ w.length + s.length := by
  have hp : ∀ w x : List UInt8, x ∈ putW w → x.length ≤ w.length := fun w x h => by
    unfold putW at h
    split at h
    · cases h
    · rw [List.mem_singleton.1 h]; exact Nat.le_refl _
  induction s with
  | nil => intro w x h; exact hp w x h
  | cons c s ih =>
    intro w x h
    rw [wordsA] at h
    split at h
    · have := ih _ x h; simp at this ⊢; omega
    · rcases List.mem_append.1 h with h | h
      · have := hp w x h; simp; omega
      · have := ih [] x h; simp at this ⊢; omega
theorem retO_eq (o : Option Int) : retO o = .tuple #[.int .i64 (o.getD 0), .bool o.isSome] := rfl
theorem rd_cell {w : World} {B : Nat} {A : Option Addr} {xs : List Value} (h : Rd w B A xs) {k : Nat} (hk : k < xs.length) : ∃ b off, A = some ⟨b, off, none⟩ ∧ b < B ∧ w.cell? ⟨b, off + k, none⟩ = some xs[k] := by
  rcases h with e | ⟨b, off, hA, hb, hc⟩
  · rw [e] at hk; exact absurd hk (by simp)
  · exact ⟨b, off, hA, hb, hc k _ (List.getElem?_eq_getElem hk)⟩
/-- What the rounds keep. -/
def Kp (w w2 : World) (g2 : Nat) (x : World) : Prop := Jn w noIns g2 x ∧ Below w2.heap.size w2 x
theorem Kp.on {w w2 x y : World} {g2 : Nat} (h : Kp w w2 g2 x) (hb : Below x.heap.size x y) : Kp w w2 g2 y := ⟨h.1.on hb, Below.trans h.2 (hb.mono (Below.size h.2))⟩
theorem Kp.new {w w2 x : World} {g2 : Nat} (h : Kp w w2 g2 x) (o : Obj) : Kp w w2 g2 (x.alloc o) := h.on (Below.alloc (Below.refl _ _) (Nat.le_refl _) o)
/-- A store into a block that is newer than w2 keeps it. -/
theorem Kp.set {w w2 x : World} {g2 g k : Nat} {v : Value} (h : Kp w w2 g2 x) (hg : w2.heap.size ≤ g) (h2 : g2 < w2.heap.size) : Kp w w2 g2 (x.setCell ⟨g, k, none⟩ v) :=
  ⟨⟨h.1.1.setCell (Nat.le_trans (Nat.le_trans h.1.2.2 (Nat.le_of_lt h2)) hg) _, h.1.2.1.other (a := ⟨g, k, none⟩) (by show g2 ≠ g; omega) _, h.1.2.2⟩, h.2.setCell hg _⟩
set_option maxHeartbeats 8000000 in
theorem rread_any (q : ByteArray) (hq : q.size ≤ 200) (w : World) : Calls Tryd.prog 12 #[.string q] w fun e w' => e = .returned (.tuple #[insV ((readC q.data.toList).getD noIns), .bool (readC q.data.toList).isSome]) ∧ BW w w' := by
  have KW := fun x => rwords_any q (by omega) x
  have hwl := wordsA_len q.data.toList []
  have hql : q.data.toList.length = q.size := rfl
  have hqS : q.toList = q.data.toList := by rw [← bs_list q.data.toList]; unfold bs; rw [Array.toArray_toList]
  obtain ⟨S, hS⟩ : ∃ S, q.data.toList = S := ⟨_, rfl⟩
  rw [hS] at hwl hql hqS ⊢
  simp only [hS] at KW
  have hend : Hid (NoF S 300 → readC S = none) := fun h => nf_end h
  have hfnd : Hid (∀ p, Rgt (cand (wordsT S) p) → textT (cand (wordsT S) p) = S → readC S = some (cand (wordsT S) p)) := fun p h e => (readC_iff S _).2 ⟨h, e⟩
  have hnx : Hid (∀ m, NoF S m → ¬ (Rgt (cand (wordsT S) m) ∧ textT (cand (wordsT S) m) = S) → NoF S (m + 1)) := fun m h1 h2 => nf_next h1 h2
  have hnf0 : Hid (NoF S 0) := fun p hp => absurd hp (Nat.not_lt_zero p)
  have hca : Hid (∀ m a : Nat, a < 4 → cand (wordsT S) (4 * m + a) = readR ((m : Int) + 1) (decide (a % 2 = 1)) (decide (1 < a)) (wordsT S)) := fun m a ha => cand_at _ m a ha
  obtain ⟨RES, hRES⟩ : ∃ R, readC S = R := ⟨_, rfl⟩
  rw [hRES] at hend hfnd ⊢
  have hwl : (wordsT S).length ≤ 201 := by unfold wordsT; omega
  have hwe : Hid (∀ x ∈ wordsT S, x.length ≤ 1000) := fun x hx => by have := wordsA_each S [] x hx; simp at this; omega
  obtain ⟨CN, hCN⟩ : ∃ C, cand (wordsT S) = C := ⟨_, rfl⟩
  rw [hCN] at hfnd hnx hca
  obtain ⟨NN, hNN⟩ : ∃ N, NoF S = N := ⟨_, rfl⟩
  rw [hNN] at hend hnx hnf0
  generalize wordsT S = ws at *
  have HQS := Lib.hid hqS
  clear hRES hCN hNN hS hql hqS
  have HJ0 := jn_new noIns w
  unfold insCells noIns at HJ0
  simp only at HJ0
  go_enter Tryd.func12, Tryd.ntmps12
  go_upto_region 1 with (fail)
  generalize w.alloc (.cells _ 23) = w1 at *
  obtain ⟨g2, hg2⟩ : ∃ g, w.heap.size = g := ⟨_, rfl⟩
  have HJ : Jn w noIns g2 w1 := by rw [← hg2]; exact HJ0
  rw [hg2]
  clear hg2 HJ0
  go_upto_region 2 with (first
    | (go_at_call 36; refine (KW _).mono ?_; rintro e w2 ⟨A, cap, rfl, hr, hb⟩; have HJ2 := HJ.on hb; clear hb))
  have HR := Lib.hid hr
  have hg22 : g2 < w2.heap.size := HJ2.2.1.lt
  have HK2 : Hid (Kp w w2 g2 w2) := ⟨HJ2, Below.refl _ _⟩
  clear hr HJ HJ2 KW
  go_wp2
  go_loopg [5] 75 (fun gg o wr => ∃ (m : Nat) (op : Int), o = .int .i64 op ∧ op = (m : Int) + 1 ∧ m + gg = 75 ∧ Hid (NN (4 * m)) ∧ Hid (Kp w w2 g2 wr))
  case atStart => exact ⟨0, 1, rfl, rfl, rfl, hnf0, HK2⟩
  case round =>
    obtain ⟨m, op, rfl, hop, hm, HNF, HKa⟩ := hrel
    obtain ⟨wo, hwo⟩ : ∃ wo : World, wo = wr := ⟨_, rfl⟩
    subst hwo
    have hop1 : 1 ≤ op := by omega
    have hop2 : op ≤ 76 := by omega
    by_cases hlt : op ≤ 75
    · have hm75 : m < 75 := by omega
      have HOP := Lib.hid hop
      clear hop
      have KS := rsort_any op (by omega) (by omega) wo
      have hs := srt_spec op
      obtain ⟨k, hk⟩ : ∃ k, srt op = k := ⟨_, rfl⟩
      rw [hk] at hs KS
      have HSK := Lib.hid hk
      clear hk
      go_upto_region 6 with (first
        | (go_at_call 23; with_reducible refine KS.mono ?_; rintro e w3 ⟨rfl, hb⟩; have HKb := Lib.hid (HKa.out.on hb); clear hb))
      clear KS HKa
      go_wp2
      go_loopg [7] 4 (fun gh a wr => ∃ t : Nat, a = .int .i64 t ∧ t + gh = 4 ∧ Hid (NN (4 * m + t)) ∧ Hid (Kp w w2 g2 wr))
      case atStart => exact ⟨0, rfl, rfl, HNF, HKb⟩
      case round =>
        clear HNF HKb
        obtain ⟨t, rfl, ht, HNT, HKc⟩ := hrel
        obtain ⟨wp, hwp⟩ : ∃ wp : World, wp = wr := ⟨_, rfl⟩
        subst hwp
        by_cases ht4 : t < 4
        · have htI : (t : Int) < 4 := by omega
          have hcand := hca.out m t ht4
          rw [← HOP.out] at hcand
          obtain ⟨aq, haq⟩ : ∃ b, decide (t % 2 = 1) = b := ⟨_, rfl⟩
          obtain ⟨rl, hrl⟩ : ∃ b, decide (1 < t) = b := ⟨_, rfl⟩
          rw [haq, hrl] at hcand
          have e1 : ((t : Int) % 2 == 1) = aq := by rw [← haq, Bool.eq_iff_iff, beq_iff_eq, decide_eq_true_eq]; omega
          have e1' : ((t : Int).tmod 2 == 1) = aq := by rw [← e1, Int.tmod_eq_emod_of_nonneg (by omega)]
          have e2 : decide (1 < (t : Int)) = rl := by rw [← hrl, decide_eq_decide]; omega
          have HCA := Lib.hid hcand
          clear haq hrl hcand
          go_upto_region 10 with (fail)
          have HB8 := Blk.new #[.int .i64 op, .int .i64 0, .int .i64 0, .int .i64 0, .int .i64 0, .bool aq, .bool rl, .int .i64 0, .int .i64 0] 23 wp
          have HKd := Lib.hid (HKc.out.new (.cells #[.int .i64 op, .int .i64 0, .int .i64 0, .int .i64 0, .int .i64 0, .bool aq, .bool rl, .int .i64 0, .int .i64 0] 23))
          have hg8 : Hid (w2.heap.size ≤ wp.heap.size) := Below.size HKc.out.2
          generalize wp.alloc (.cells _ 23) = wq at *
          obtain ⟨g8, hgg⟩ : ∃ g, wp.heap.size = g := ⟨_, rfl⟩
          rw [hgg] at HB8 hg8 ⊢
          clear hgg HKc e1 e1' e2
          go_upto_if 36 with (fail)
          go_cut [5, 6, 7] from 24 to 178 (fun s5 s6 s7 wx => s5 = .int .i64 op ∧ s6 = .int .i64 k ∧ s7 = .int .i64 t ∧ Hid (Blk (insCells (baseR op aq rl)) 23 g8 wx) ∧ Hid (Kp w w2 g2 wx))
          case first => as_aux_lemma =>
            have c0 : wq.cell? ⟨g8, 0, none⟩ = some (.int .i64 op) := HB8.cell 0
            have c7 : wq.cell? ⟨g8, 7, none⟩ = some (.int .i64 0) := HB8.cell 7
            have c8 : wq.cell? ⟨g8, 8, none⟩ = some (.int .i64 0) := HB8.cell 8
            have f7 := HB8.free 7
            have f8 := HB8.free 8
            by_cases h51 : op = 51
            · subst h51
              have HF : Hid (baseR 51 aq rl = ⟨51, 0, 0, 0, 0, aq, rl, 3, 3⟩) := by show _ = _; rw [base_sets, if_pos rfl]
              go_wp2_with fail
              go_meet
              case rel => exact ⟨rfl, rfl, rfl, (by show Blk _ _ _ _; rw [HF.out]; exact (HB8.set 7 (.int .i64 3)).set 8 (.int .i64 3)), (HKd.out.set hg8.out hg22).set hg8.out hg22⟩
            · have b51 : (op == 51) = false := by simpa using h51
              have HF : Hid (baseR op aq rl = ⟨op, 0, 0, 0, 0, aq, rl, 0, 0⟩) := by show _ = _; rw [base_sets, if_neg h51]
              clear h51
              go_wp2_with fail
              go_meet
              case rel => exact ⟨rfl, rfl, rfl, (by show Blk _ _ _ _; rw [HF.out]; exact HB8), HKd.out⟩
          case rest =>
            obtain ⟨rfl, rfl, rfl, HBi, HKe⟩ := hcut
            clear HB8 HKd
            obtain ⟨FR, hFR⟩ : ∃ F, foldR op 1 ws.tail ⟨baseR op aq rl, 0, 0⟩ = F := ⟨_, rfl⟩
            have hcf := HCA.out
            unfold readR at hcf
            rw [hFR] at hcf
            have HCF := Lib.hid hcf
            have HFR : Hid (foldR op 1 (ws.drop 1) ⟨baseR op aq rl, 0, 0⟩ = FR) := by show _ = _; rw [List.drop_one]; exact hFR
            have hbop : (baseR op aq rl).op = op := rfl
            clear hcf hFR HCA
            go_wp2
            go_loopg [9, 10, 11] ws.length (fun gi r9 r10 r11 wr => ∃ (n : Nat) (s : RdS), r9 = .int .i64 s.regs ∧ r10 = .int .i64 s.nums ∧ r11 = .int .i64 n ∧ n + gi = ws.length + 1 ∧ 1 ≤ n ∧ 0 ≤ s.regs ∧ s.regs ≤ n ∧ 0 ≤ s.nums ∧ s.nums ≤ n ∧ s.i.op = op ∧ Hid (foldR op n (ws.drop n) s = FR) ∧ Hid (Blk (insCells s.i) 23 g8 wr) ∧ Hid (Kp w w2 g2 wr))
            case atStart => exact ⟨1, ⟨baseR op aq rl, 0, 0⟩, rfl, rfl, rfl, by omega, by omega, (show (0 : Int) ≤ 0 by decide), (show (0 : Int) ≤ 1 by decide), (show (0 : Int) ≤ 0 by decide), (show (0 : Int) ≤ 1 by decide), hbop, HFR, HBi, HKe⟩
            case round =>
              clear HFR HBi HKe hbop
              obtain ⟨n, s, rfl, rfl, rfl, hn, hn1, hr0, hr1, hs0, hs1, hsop, HF, HBj, HKj⟩ := hrel
              obtain ⟨wz, hwz⟩ : ∃ wz : World, wz = wr := ⟨_, rfl⟩
              subst hwz
              obtain ⟨si, sr, sn⟩ := s
              simp only at hr0 hr1 hs0 hs1 hsop HF HBj ⊢
              by_cases hnl : n < ws.length
              · have hnI : (n : Int) < ws.length := by omega
                obtain ⟨b, off, hA, hbl, hcw⟩ := rd_cell HR.out (k := n) (by unfold txs; rw [List.length_map]; exact hnl)
                obtain ⟨Q, hQ⟩ : ∃ Q, ws[n] = Q := ⟨_, rfl⟩
                have hcw2 : wz.cell? ⟨b, off + n, none⟩ = some (.string (bs Q)) := by
                  rw [HKj.out.2.cell (p := ⟨b, off + n, none⟩) hbl, hcw]
                  unfold txs
                  rw [List.getElem_map, hQ]
                  rfl
                have hst : foldR op n (ws.drop n) ⟨si, sr, sn⟩ = foldR op (n + 1) (ws.drop (n + 1)) (stepR op n Q ⟨si, sr, sn⟩) := by rw [List.drop_eq_getElem_cons hnl, hQ]; rfl
                rw [step_eq] at hst
                simp only at hst
                have HST : Hid (foldR op (n + 1) (ws.drop (n + 1)) ⟨i3S op (numV Q) sn (i2S op (regS Q) sr (setR op n Q si)), g2S (regS Q) sr, n3S op (numV Q) sn⟩ = FR) := by show _ = _; rw [← hst]; exact HF.out
                have hop3 : (i3S op (numV Q) sn (i2S op (regS Q) sr (setR op n Q si))).op = op := by
                  have := step_op op n Q ⟨si, sr, sn⟩
                  rw [step_eq] at this
                  exact this.trans hsop
                have HOP3 := Lib.hid hop3
                have KRg := fun x => rregister9_any (bs Q) x
                have KNm := fun x => rnumber_any (bs Q) x
                have KBt := fun x => rbits_any (bs Q) (by
                  have := hwe.out Q (by rw [← hQ]; exact List.getElem_mem hnl)
                  show Q.length ≤ _
                  omega) x
                have hbq : (bs Q).data.toList = Q := rfl
                rw [hbq] at KRg KNm KBt
                obtain ⟨o1, ho1⟩ : ∃ o, regS Q = o := ⟨_, rfl⟩
                obtain ⟨o2, ho2⟩ : ∃ o, numV Q = o := ⟨_, rfl⟩
                rw [ho1] at KRg HST HOP3
                rw [ho2] at KNm HST HOP3
                rw [retO_eq] at KRg KNm
                obtain ⟨r, hr⟩ : ∃ r, o1.getD 0 = r := ⟨_, rfl⟩
                obtain ⟨bk, hbk⟩ : ∃ b, o1.isSome = b := ⟨_, rfl⟩
                obtain ⟨x, hx⟩ : ∃ r, o2.getD 0 = r := ⟨_, rfl⟩
                obtain ⟨bx, hbx⟩ : ∃ b, o2.isSome = b := ⟨_, rfl⟩
                rw [hr, hbk] at KRg
                rw [hx, hbx] at KNm
                have HO1 : Hid ((o1 = none ∧ bk = false) ∨ (o1 = some r ∧ bk = true)) := by
                  cases o1 with
                  | none => exact .inl ⟨rfl, hbk.symm⟩
                  | some v => exact .inr ⟨by rw [← hr]; rfl, hbk.symm⟩
                have HO2 : Hid ((o2 = none ∧ bx = false) ∨ (o2 = some x ∧ bx = true)) := by
                  cases o2 with
                  | none => exact .inl ⟨rfl, hbx.symm⟩
                  | some v => exact .inr ⟨by rw [← hx]; rfl, hbx.symm⟩
                have HCW : Hid (w2.cell? ⟨b, off + n, none⟩ = some (.string (bs Q))) := by
                  show _ = _
                  rw [hcw]
                  unfold txs
                  rw [List.getElem_map, hQ]
                  rfl
                subst hA
                clear hcw hQ hst HF hop3 ho1 ho2 hr hbk hx hbx
                go_upto_region 19 with (first
                  | (go_at_call 16; refine (KRg _).mono ?_; rintro e w' ⟨rfl, rfl⟩)
                  | (go_at_call 14; refine (KNm _).mono ?_; rintro e w' ⟨rfl, rfl⟩))
                go_cut [5, 11, 66] from 39 to 169 (fun s5 s11 s66 wx => s5 = .int .i64 op ∧ s11 = .int .i64 n ∧ wx = wz ∧ s66 = .bool (decide (op = 50 ∧ n = 1)))
                case first => as_aux_lemma =>
                  by_cases h50 : op = 50
                  · by_cases hn1 : n = 1
                    · have b1 : decide (op = 50 ∧ n = 1) = true := decide_eq_true ⟨h50, hn1⟩
                      have q1 : (op == 50) = true := by simpa using h50
                      have q2 : ((n : Int) == 1) = true := by rw [beq_iff_eq]; omega
                      clear h50 hn1
                      go_wp2_with fail
                      go_meet
                      case rel => exact ⟨rfl, rfl, rfl, by rw [b1]⟩
                    · have b1 : decide (op = 50 ∧ n = 1) = false := decide_eq_false (fun h => hn1 h.2)
                      have q1 : (op == 50) = true := by simpa using h50
                      have q2 : ((n : Int) == 1) = false := by rw [beq_eq_false_iff_ne]; omega
                      clear h50 hn1
                      go_wp2_with fail
                      go_meet
                      case rel => exact ⟨rfl, rfl, rfl, by rw [b1]⟩
                  · have b1 : decide (op = 50 ∧ n = 1) = false := decide_eq_false (fun h => h50 h.1)
                    have q1 : (op == 50) = false := by simpa using h50
                    clear h50
                    go_wp2_with fail
                    go_meet
                    case rel => exact ⟨rfl, rfl, rfl, by rw [b1]⟩
                case rest =>
                  obtain ⟨rfl, rfl, rfl, rfl⟩ := hcut
                  clear hcw2
                  obtain ⟨B1, hB1⟩ : ∃ B, decide (op = 50 ∧ n = 1) = B := ⟨_, rfl⟩
                  rw [hB1]
                  have HB1 := Lib.hid hB1
                  clear hB1
                  obtain ⟨bq, hbqq⟩ : ∃ v : Int, (bitsT Q : Int) = v := ⟨_, rfl⟩
                  rw [hbqq] at KBt
                  go_upto_if 66 with (fail)
                  go_cut [5, 11] from 39 to 169 (fun s5 s11 wx => s5 = .int .i64 op ∧ s11 = .int .i64 n ∧ Hid (Blk (insCells (if B1 then { si with pred := bq } else si)) 23 g8 wx) ∧ Hid (Kp w w2 g2 wx))
                  case first => as_aux_lemma =>
                    cases B1
                    · go_wp2_with fail
                      go_meet
                      case rel => exact ⟨rfl, rfl, HBj, HKj⟩
                    · have cw := HCW.out
                      rw [← HKj.out.2.cell (p := ⟨b, off + n, none⟩) hbl] at cw
                      have c7 := HBj.out.cell 7
                      have f7 := HBj.out.free 7
                      simp only [insCells] at c7
                      go_wp2_with (first
                        | (go_at_call 37; refine (KBt _).mono ?_; rintro e w' ⟨rfl, rfl⟩))
                      go_meet
                      case rel => exact ⟨rfl, rfl, HBj.out.set 7 (.int .i64 bq), HKj.out.set hg8.out hg22⟩
                  case rest =>
                    obtain ⟨rfl, rfl, HBa, HKa⟩ := hcut
                    obtain ⟨i1a, hi1a⟩ : ∃ j, (if B1 then { si with pred := bq } else si) = j := ⟨_, rfl⟩
                    rw [hi1a] at HBa
                    clear HBj HKj
                    go_upto_region 21 with (fail)
                    go_cut [5, 11, 78] from 39 to 169 (fun s5 s11 s78 wx => s5 = .int .i64 op ∧ s11 = .int .i64 n ∧ wx = wc ∧ s78 = .bool (decide (op = 50 ∧ n = 2)))
                    case first => as_aux_lemma =>
                      by_cases h50 : op = 50
                      · by_cases hn1 : n = 2
                        · have b1 : decide (op = 50 ∧ n = 2) = true := decide_eq_true ⟨h50, hn1⟩
                          have q1 : (op == 50) = true := by simpa using h50
                          have q2 : ((n : Int) == 2) = true := by rw [beq_iff_eq]; omega
                          clear h50 hn1
                          go_wp2_with fail
                          go_meet
                          case rel => exact ⟨rfl, rfl, rfl, by rw [b1]⟩
                        · have b1 : decide (op = 50 ∧ n = 2) = false := decide_eq_false (fun h => hn1 h.2)
                          have q1 : (op == 50) = true := by simpa using h50
                          have q2 : ((n : Int) == 2) = false := by rw [beq_eq_false_iff_ne]; omega
                          clear h50 hn1
                          go_wp2_with fail
                          go_meet
                          case rel => exact ⟨rfl, rfl, rfl, by rw [b1]⟩
                      · have b1 : decide (op = 50 ∧ n = 2) = false := decide_eq_false (fun h => h50 h.1)
                        have q1 : (op == 50) = false := by simpa using h50
                        clear h50
                        go_wp2_with fail
                        go_meet
                        case rel => exact ⟨rfl, rfl, rfl, by rw [b1]⟩
                    case rest =>
                      obtain ⟨rfl, rfl, rfl, rfl⟩ := hcut
                      obtain ⟨B2, hB2⟩ : ∃ B, decide (op = 50 ∧ n = 2) = B := ⟨_, rfl⟩
                      rw [hB2]
                      go_upto_if 78 with (fail)
                      go_cut [5, 11] from 39 to 169 (fun s5 s11 wx => s5 = .int .i64 op ∧ s11 = .int .i64 n ∧ Hid (Blk (insCells (if B2 then { i1a with succ := bq } else i1a)) 23 g8 wx) ∧ Hid (Kp w w2 g2 wx))
                      case first => as_aux_lemma =>
                        clear hB2 hi1a hbqq
                        cases B2
                        · go_wp2_with fail
                          go_meet
                          case rel => exact ⟨rfl, rfl, HBa, HKa⟩
                        · have cw := HCW.out
                          rw [← HKa.out.2.cell (p := ⟨b, off + n, none⟩) hbl] at cw
                          have c8 := HBa.out.cell 8
                          have f8 := HBa.out.free 8
                          simp only [insCells] at c8
                          go_wp2_with (first
                            | (go_at_call 37; refine (KBt _).mono ?_; rintro e w' ⟨rfl, rfl⟩))
                          go_meet
                          case rel => exact ⟨rfl, rfl, HBa.out.set 8 (.int .i64 bq), HKa.out.set hg8.out hg22⟩
                      case rest =>
                        obtain ⟨rfl, rfl, HBg, HKg⟩ := hcut
                        obtain ⟨i1, hi1⟩ : ∃ j, (if B2 then { i1a with succ := bq } else i1a) = j := ⟨_, rfl⟩
                        rw [hi1] at HBg
                        have HI1 : Hid (setR op n Q si = i1) := by
                          show _ = _
                          rw [← hi1, ← hi1a, ← hbqq]
                          unfold setR
                          by_cases c1 : op = 50 ∧ n = 1
                          · have : B1 = true := by rw [← HB1.out]; exact decide_eq_true c1
                            have h2 : B2 = false := by rw [← hB2]; exact decide_eq_false (by omega)
                            rw [if_pos c1, this, h2]
                            rfl
                          · have : B1 = false := by rw [← HB1.out]; exact decide_eq_false c1
                            rw [if_neg c1, this]
                            by_cases c2 : op = 50 ∧ n = 2
                            · have h2 : B2 = true := by rw [← hB2]; exact decide_eq_true c2
                              rw [if_pos c2, h2]
                              rfl
                            · have h2 : B2 = false := by rw [← hB2]; exact decide_eq_false c2
                              rw [if_neg c2, h2]
                              rfl
                        rw [HI1.out] at HST HOP3
                        clear HI1 hi1 hi1a hbqq hB2 HB1 HBa HKa KBt HCW
                        go_upto_if 85 with (fail)
                        go_cut [5, 6, 9, 11] from 39 to 169 (fun s5 s6 s9 s11 wx => s5 = .int .i64 op ∧ s6 = .int .i64 k ∧ s9 = .int .i64 (g2S o1 sr) ∧ s11 = .int .i64 n ∧ Hid (Blk (insCells (i2S op o1 sr i1)) 23 g8 wx) ∧ Hid (Kp w w2 g2 wx))
                        case first => as_aux_lemma =>
                          clear HST HOP3
                          have f1 := HBg.out.free 1
                          have f2 := HBg.out.free 2
                          have f3 := HBg.out.free 3
                          have c1 := HBg.out.cell 1
                          have c2 := HBg.out.cell 2
                          have c3 := HBg.out.cell 3
                          simp only [insCells] at c1 c2 c3
                          rcases HO1.out with ⟨rfl, rfl⟩ | ⟨rfl, rfl⟩
                          · go_wp2_with fail
                            go_meet
                            case rel => exact ⟨rfl, rfl, rfl, rfl, HBg, HKg⟩
                          · clear HO1
                            rcases (show sr = 0 ∨ sr = 1 ∨ sr = 2 ∨ 3 ≤ sr by omega) with rfl | rfl | rfl | hsr
                            · have HS := HSK.out
                              rcases (show k = 3 ∨ k = 5 ∨ (k ≠ 3 ∧ k ≠ 5) by omega) with rfl | rfl | ⟨k3, k5⟩
                              · skip
                                have HP : Hid (i2S op (some r) 0 i1 = { i1 with rs1 := r }) := put_1 (regs := 0 + 1) (by omega)
                                clear HSK
                                go_wp2_with fail
                                go_meet
                                case rel => exact ⟨rfl, rfl, int_eq (by first | rfl | omega), rfl, (by show Blk _ _ _ _; rw [HP.out]; exact HBg.out.set 2 (.int .i64 r)), HKg.out.set hg8.out hg22⟩
                              · skip
                                have HP : Hid (i2S op (some r) 0 i1 = { i1 with rs2 := r }) := put_2 (regs := 0 + 1) (by omega) (by omega)
                                clear HSK
                                go_wp2_with fail
                                go_meet
                                case rel => exact ⟨rfl, rfl, int_eq (by first | rfl | omega), rfl, (by show Blk _ _ _ _; rw [HP.out]; exact HBg.out.set 3 (.int .i64 r)), HKg.out.set hg8.out hg22⟩
                              · have q3 : (k == 3) = false := by rw [beq_eq_false_iff_ne]; omega
                                have q5 : (k == 5) = false := by rw [beq_eq_false_iff_ne]; omega
                                have HP : Hid (i2S op (some r) 0 i1 = { i1 with rd := r }) := put_d (regs := 0 + 1) (by omega) (by omega) (by omega)
                                clear HSK
                                go_wp2_with fail
                                go_meet
                                case rel => exact ⟨rfl, rfl, int_eq (by first | rfl | omega), rfl, (by show Blk _ _ _ _; rw [HP.out]; exact HBg.out.set 1 (.int .i64 r)), HKg.out.set hg8.out hg22⟩
                            · have HS := HSK.out
                              rcases (show op = 4 ∨ (op ≠ 4 ∧ k = 4) ∨ (op ≠ 4 ∧ k = 5) ∨ (op ≠ 4 ∧ k = 6) ∨ (op ≠ 4 ∧ k = 7) ∨ (op ≠ 4 ∧ k = 10) ∨ (op ≠ 4 ∧ k = 3) ∨ (op ≠ 4 ∧ 10 < k) ∨ (op ≠ 4 ∧ k ≠ 3 ∧ k ≠ 4 ∧ k ≠ 5 ∧ k ≠ 6 ∧ k ≠ 7 ∧ k ≠ 10 ∧ ¬ 10 < k) by omega) with rfl | ⟨o4, rfl⟩ | ⟨o4, rfl⟩ | ⟨o4, rfl⟩ | ⟨o4, rfl⟩ | ⟨o4, rfl⟩ | ⟨o4, rfl⟩ | ⟨o4, k10⟩ | ⟨o4, k3, k4, k5, k6, k7, k10, k11⟩
                              · skip
                                have HP : Hid (i2S 4 (some r) 1 i1 = { i1 with rs1 := r }) := put_1 (regs := 1 + 1) (by omega)
                                clear HSK
                                go_wp2_with fail
                                go_meet
                                case rel => exact ⟨rfl, rfl, int_eq (by first | rfl | omega), rfl, (by show Blk _ _ _ _; rw [HP.out]; exact HBg.out.set 2 (.int .i64 r)), HKg.out.set hg8.out hg22⟩
                              · have b4 : (op == 4) = false := by rw [beq_eq_false_iff_ne]; omega
                                have HP : Hid (i2S op (some r) 1 i1 = { i1 with rs1 := r }) := put_1 (regs := 1 + 1) (by omega)
                                clear HSK
                                go_wp2_with fail
                                go_meet
                                case rel => exact ⟨rfl, rfl, int_eq (by first | rfl | omega), rfl, (by show Blk _ _ _ _; rw [HP.out]; exact HBg.out.set 2 (.int .i64 r)), HKg.out.set hg8.out hg22⟩
                              · have b4 : (op == 4) = false := by rw [beq_eq_false_iff_ne]; omega
                                have HP : Hid (i2S op (some r) 1 i1 = { i1 with rs1 := r }) := put_1 (regs := 1 + 1) (by omega)
                                clear HSK
                                go_wp2_with fail
                                go_meet
                                case rel => exact ⟨rfl, rfl, int_eq (by first | rfl | omega), rfl, (by show Blk _ _ _ _; rw [HP.out]; exact HBg.out.set 2 (.int .i64 r)), HKg.out.set hg8.out hg22⟩
                              · have b4 : (op == 4) = false := by rw [beq_eq_false_iff_ne]; omega
                                have HP : Hid (i2S op (some r) 1 i1 = { i1 with rs1 := r }) := put_1 (regs := 1 + 1) (by omega)
                                clear HSK
                                go_wp2_with fail
                                go_meet
                                case rel => exact ⟨rfl, rfl, int_eq (by first | rfl | omega), rfl, (by show Blk _ _ _ _; rw [HP.out]; exact HBg.out.set 2 (.int .i64 r)), HKg.out.set hg8.out hg22⟩
                              · have b4 : (op == 4) = false := by rw [beq_eq_false_iff_ne]; omega
                                have HP : Hid (i2S op (some r) 1 i1 = { i1 with rs1 := r }) := put_1 (regs := 1 + 1) (by omega)
                                clear HSK
                                go_wp2_with fail
                                go_meet
                                case rel => exact ⟨rfl, rfl, int_eq (by first | rfl | omega), rfl, (by show Blk _ _ _ _; rw [HP.out]; exact HBg.out.set 2 (.int .i64 r)), HKg.out.set hg8.out hg22⟩
                              · have b4 : (op == 4) = false := by rw [beq_eq_false_iff_ne]; omega
                                have HP : Hid (i2S op (some r) 1 i1 = { i1 with rs1 := r }) := put_1 (regs := 1 + 1) (by omega)
                                clear HSK
                                go_wp2_with fail
                                go_meet
                                case rel => exact ⟨rfl, rfl, int_eq (by first | rfl | omega), rfl, (by show Blk _ _ _ _; rw [HP.out]; exact HBg.out.set 2 (.int .i64 r)), HKg.out.set hg8.out hg22⟩
                              · have b4 : (op == 4) = false := by rw [beq_eq_false_iff_ne]; omega
                                have HP : Hid (i2S op (some r) 1 i1 = { i1 with rs2 := r }) := put_2 (regs := 1 + 1) (by omega) (by omega)
                                clear HSK
                                go_wp2_with fail
                                go_meet
                                case rel => exact ⟨rfl, rfl, int_eq (by first | rfl | omega), rfl, (by show Blk _ _ _ _; rw [HP.out]; exact HBg.out.set 3 (.int .i64 r)), HKg.out.set hg8.out hg22⟩
                              · have b4 : (op == 4) = false := by rw [beq_eq_false_iff_ne]; omega
                                have q3 : (k == 3) = false := by rw [beq_eq_false_iff_ne]; omega
                                have q4 : (k == 4) = false := by rw [beq_eq_false_iff_ne]; omega
                                have q5 : (k == 5) = false := by rw [beq_eq_false_iff_ne]; omega
                                have q6 : (k == 6) = false := by rw [beq_eq_false_iff_ne]; omega
                                have q7 : (k == 7) = false := by rw [beq_eq_false_iff_ne]; omega
                                have q10 : (k == 10) = false := by rw [beq_eq_false_iff_ne]; omega
                                have q11 : decide (10 < k) = true := decide_eq_true (by omega)
                                have HP : Hid (i2S op (some r) 1 i1 = { i1 with rs2 := r }) := put_2 (regs := 1 + 1) (by omega) (by omega)
                                clear HSK
                                go_wp2_with fail
                                go_meet
                                case rel => exact ⟨rfl, rfl, int_eq (by first | rfl | omega), rfl, (by show Blk _ _ _ _; rw [HP.out]; exact HBg.out.set 3 (.int .i64 r)), HKg.out.set hg8.out hg22⟩
                              · have b4 : (op == 4) = false := by rw [beq_eq_false_iff_ne]; omega
                                have q3 : (k == 3) = false := by rw [beq_eq_false_iff_ne]; omega
                                have q4 : (k == 4) = false := by rw [beq_eq_false_iff_ne]; omega
                                have q5 : (k == 5) = false := by rw [beq_eq_false_iff_ne]; omega
                                have q6 : (k == 6) = false := by rw [beq_eq_false_iff_ne]; omega
                                have q7 : (k == 7) = false := by rw [beq_eq_false_iff_ne]; omega
                                have q10 : (k == 10) = false := by rw [beq_eq_false_iff_ne]; omega
                                have q11 : decide (10 < k) = false := decide_eq_false (by omega)
                                have HP : Hid (i2S op (some r) 1 i1 = i1) := put_0 (regs := 1 + 1) (by omega) (by omega) (by omega)
                                clear HSK
                                go_wp2_with fail
                                go_meet
                                case rel => exact ⟨rfl, rfl, int_eq (by first | rfl | omega), rfl, (by show Blk _ _ _ _; rw [HP.out]; exact HBg.out), HKg.out⟩
                            · have HS := HSK.out
                              rcases (show 10 < k ∨ k = 7 ∨ (k ≠ 7 ∧ ¬ 10 < k) by omega) with k10 | rfl | ⟨k7, k10⟩
                              · have q11 : decide (10 < k) = true := decide_eq_true (by omega)
                                have HP : Hid (i2S op (some r) 2 i1 = { i1 with rs1 := r }) := put_1 (regs := 2 + 1) (by omega)
                                clear HSK
                                go_wp2_with fail
                                go_meet
                                case rel => exact ⟨rfl, rfl, int_eq (by first | rfl | omega), rfl, (by show Blk _ _ _ _; rw [HP.out]; exact HBg.out.set 2 (.int .i64 r)), HKg.out.set hg8.out hg22⟩
                              · skip
                                have HP : Hid (i2S op (some r) 2 i1 = { i1 with rs2 := r }) := put_2 (regs := 2 + 1) (by omega) (by omega)
                                clear HSK
                                go_wp2_with fail
                                go_meet
                                case rel => exact ⟨rfl, rfl, int_eq (by first | rfl | omega), rfl, (by show Blk _ _ _ _; rw [HP.out]; exact HBg.out.set 3 (.int .i64 r)), HKg.out.set hg8.out hg22⟩
                              · have q11 : decide (10 < k) = false := decide_eq_false (by omega)
                                have q7 : (k == 7) = false := by rw [beq_eq_false_iff_ne]; omega
                                have HP : Hid (i2S op (some r) 2 i1 = i1) := put_0 (regs := 2 + 1) (by omega) (by omega) (by omega)
                                clear HSK
                                go_wp2_with fail
                                go_meet
                                case rel => exact ⟨rfl, rfl, int_eq (by first | rfl | omega), rfl, (by show Blk _ _ _ _; rw [HP.out]; exact HBg.out), HKg.out⟩
                            · have HS := HSK.out
                              have r1 : (sr + 1 == 1) = false := by rw [beq_eq_false_iff_ne]; omega
                              have r2 : (sr + 1 == 2) = false := by rw [beq_eq_false_iff_ne]; omega
                              have r3 : (sr + 1 == 3) = false := by rw [beq_eq_false_iff_ne]; omega
                              have eR : wrap64 (sr + 1) = sr + 1 := wrap64_of ⟨by omega, by omega⟩
                              have HP : Hid (i2S op (some r) sr i1 = i1) := put_0 (regs := sr + 1) (by omega) (by omega) (by omega)
                              clear HSK
                              go_wp2_with fail
                              go_meet
                              case rel => exact ⟨rfl, rfl, int_eq (by first | rfl | omega), rfl, (by show Blk _ _ _ _; rw [HP.out]; exact HBg.out), HKg.out⟩
                        case rest =>
                          obtain ⟨rfl, rfl, rfl, rfl, HBk, HKk⟩ := hcut
                          have hgg : 0 ≤ g2S o1 sr ∧ g2S o1 sr ≤ (n : Int) + 1 := by
                            unfold g2S
                            split <;> omega
                          obtain ⟨I2, hI2⟩ : ∃ j, i2S op o1 sr i1 = j := ⟨_, rfl⟩
                          obtain ⟨GG, hGG⟩ : ∃ g, g2S o1 sr = g := ⟨_, rfl⟩
                          rw [hI2] at HBk HST HOP3
                          rw [hGG] at HST hgg ⊢
                          clear hI2 hGG HO1 HBg HKg HSK hs
                          rcases HO2.out with ⟨rfl, rfl⟩ | ⟨rfl, rfl⟩
                          · clear HO2
                            go_wp2
                            go_roundg (ws.length + 1 - (n + 1))
                            case measure => omega
                            case rel => exact ⟨n + 1, ⟨I2, GG, sn⟩, rfl, rfl, by go_num, by omega, by omega, hgg.1, by have := hgg.2; simp only; omega, hs0, by simp only; omega, HOP3.out, HST, HBk, HKk⟩
                          · clear HO2
                            by_cases h50 : op = 50
                            · have q1 : (op != 50) = false := by rw [h50]; rfl
                              have e3 : i3S op (some x) sn I2 = I2 := by unfold i3S; simp only; rw [if_pos h50]
                              have e4 : n3S op (some x) sn = sn := by unfold n3S; simp only; rw [if_pos h50]
                              rw [e3, e4] at HST
                              rw [e3] at HOP3
                              clear e3 e4 h50
                              go_wp2
                              go_roundg (ws.length + 1 - (n + 1))
                              case measure => omega
                              case rel => exact ⟨n + 1, ⟨I2, GG, sn⟩, rfl, rfl, by go_num, by omega, by omega, hgg.1, by have := hgg.2; simp only; omega, hs0, by simp only; omega, HOP3.out, HST, HBk, HKk⟩
                            · have q1 : (op != 50) = true := by rw [bne_iff_ne]; exact h50
                              have e4 : n3S op (some x) sn = sn + 1 := by unfold n3S; simp only; rw [if_neg h50]
                              have ew : wrap64 (sn + 1) = sn + 1 := wrap64_of ⟨by omega, by omega⟩
                              by_cases hz : sn = 0
                              · subst hz
                                have e3 : i3S op (some x) 0 I2 = { I2 with imm := x } := by unfold i3S; simp only; rw [if_neg h50]; rfl
                                rw [e3, e4] at HST
                                rw [e3] at HOP3
                                clear e3 e4 h50
                                have c4 := HBk.out.cell 4
                                have f4 := HBk.out.free 4
                                simp only [insCells] at c4
                                go_wp2
                                go_roundg (ws.length + 1 - (n + 1))
                                case measure => omega
                                case rel => exact ⟨n + 1, ⟨{ I2 with imm := x }, GG, 0 + 1⟩, rfl, rfl, by go_num, by omega, by omega, hgg.1, by have := hgg.2; simp only; omega, (show (0 : Int) ≤ 0 + 1 by decide), by simp only; omega, HOP3.out, HST, HBk.out.set 4 (.int .i64 x), HKk.out.set hg8.out hg22⟩
                              · have e3 : i3S op (some x) sn I2 = I2 := by unfold i3S; simp only; rw [if_neg h50, if_neg (by omega)]
                                have q2 : (sn + 1 == 1) = false := by rw [beq_eq_false_iff_ne]; omega
                                rw [e3, e4] at HST
                                rw [e3] at HOP3
                                clear e3 e4 h50 hz
                                go_wp2
                                go_roundg (ws.length + 1 - (n + 1))
                                case measure => omega
                                case rel => exact ⟨n + 1, ⟨I2, GG, sn + 1⟩, rfl, rfl, by go_num, by omega, by omega, hgg.1, by have := hgg.2; simp only; omega, by simp only; omega, by simp only; omega, HOP3.out, HST, HBk, HKk⟩
              · have hF := HF.out
                rw [List.drop_eq_nil_of_le (by omega)] at hF
                have hFs : FR = ⟨si, sr, sn⟩ := hF.symm
                have hcf := HCF.out
                rw [hFs] at hcf
                simp only at hcf
                have hsI : I64 si.op := by rw [hsop]; exact ⟨by omega, by omega⟩
                have KG := right_any si hsI wz
                have hnI : ¬ (n : Int) < ws.length := by omega
                have hnx2 := hnx.out (4 * m + t) HNT.out
                have hfn2 := hfnd.out (4 * m + t)
                rw [hcf] at hnx2 hfn2
                clear hF hFs hcf HF HCF hca hnx hfnd hend HNT
                cases hg : rgtB si with
                | false =>
                  have HN2 : Hid (NN (4 * m + (t + 1))) := hnx2 (fun h => by have := (rgt_iff si).2 h.1; rw [hg] at this; cases this)
                  rw [hg] at KG
                  clear hnx2 hfn2 hg hsI hsop
                  obtain ⟨sop, srd, srs1, srs2, simm, saq, srl, spred, ssucc⟩ := si
                  have c0 := HBj.out.cell 0
                  have c1 := HBj.out.cell 1
                  have c2 := HBj.out.cell 2
                  have c3 := HBj.out.cell 3
                  have c4 := HBj.out.cell 4
                  have c5 := HBj.out.cell 5
                  have c6 := HBj.out.cell 6
                  have c7 := HBj.out.cell 7
                  have c8 := HBj.out.cell 8
                  simp only [insCells] at c0 c1 c2 c3 c4 c5 c6 c7 c8
                  unfold insV at KG
                  simp only at KG
                  go_wp2_with (first
                    | (go_at_call 9; refine KG.mono ?_; rintro e w4 ⟨rfl, hb⟩; have HK4 := Lib.hid (HKj.out.on hb); clear hb c0 c1 c2 c3 c4 c5 c6 c7 c8))
                  go_roundg (4 - (t + 1))
                  case measure => omega
                  case rel => exact ⟨t + 1, by go_num, by omega, HN2, HK4⟩
                | true =>
                  have hR := (rgt_iff si).1 hg
                  have KT := fun x => rtext_any si hR x
                  rw [hg] at KG
                  have hbe : ((bs (textT si)).toList == q.toList) = decide (textT si = S) := by
                    rw [bs_list, HQS.out]
                    by_cases h : textT si = S
                    · rw [h]; simp
                    · rw [decide_eq_false h]; simpa using h
                  by_cases hte : textT si = S
                  · have HRR : Hid (RES = some si) := hfn2 hR hte
                    rw [decide_eq_true hte] at hbe
                    clear hnx2 hfn2 hg hsI hsop hte hR
                    unfold tx at KT
                    generalize bs (textT si) = tt at *
                    obtain ⟨sj, hsj⟩ : ∃ j, si = j := ⟨_, rfl⟩
                    have HBJ : Hid (Blk (insCells sj) 23 g8 wz) := by rw [← hsj]; exact HBj
                    rw [hsj] at HRR
                    obtain ⟨sop, srd, srs1, srs2, simm, saq, srl, spred, ssucc⟩ := si
                    clear hsj
                    have c0 := HBj.out.cell 0
                    have c1 := HBj.out.cell 1
                    have c2 := HBj.out.cell 2
                    have c3 := HBj.out.cell 3
                    have c4 := HBj.out.cell 4
                    have c5 := HBj.out.cell 5
                    have c6 := HBj.out.cell 6
                    have c7 := HBj.out.cell 7
                    have c8 := HBj.out.cell 8
                    simp only [insCells] at c0 c1 c2 c3 c4 c5 c6 c7 c8
                    unfold insV at KG KT
                    simp only at KG KT
                    go_upto_if 177 with (first
                      | (go_at_call 9; refine KG.mono ?_; rintro e w4 ⟨rfl, hb⟩; clear c0 c1 c2 c3 c4 c5 c6 c7 c8; have HK4 := Lib.hid (HKj.out.on hb); have HB4 := Lib.hid (HBj.out.on hb); have HBJ4 := Lib.hid (HBJ.out.on hb); have c0 := HB4.out.cell 0; have c1 := HB4.out.cell 1; have c2 := HB4.out.cell 2; have c3 := HB4.out.cell 3; have c4 := HB4.out.cell 4; have c5 := HB4.out.cell 5; have c6 := HB4.out.cell 6; have c7 := HB4.out.cell 7; have c8 := HB4.out.cell 8; simp only [insCells] at c0 c1 c2 c3 c4 c5 c6 c7 c8; clear hb)
                      | (go_at_call 10; refine (KT _).mono ?_; rintro e w5 ⟨rfl, hb⟩; have HK5 := Lib.hid (HK4.out.on hb); have HBJ5 := HBJ4.out.on hb; clear hb c0 c1 c2 c3 c4 c5 c6 c7 c8))
                    obtain ⟨w9, hsto, k4⟩ := HK5.out.1.put (P := Tryd.prog) sj
                    go_wp2_with (with_reducible refine load_blk (o := ⟨some 178, _, _, _, _, _⟩) rfl 23 (.tmp 8) rfl HBJ5 rfl Tryd.underlying23 rfl (by kernel_rfl) ?_)
                    try rw [Exit.noGoto_ret]
                    rw [HRR.out]
                    exact bodyPost_ret (results_blk rfl rfl k4.2.1 Tryd.underlying23 rfl (by kernel_rfl)) rfl ⟨rfl, k4.1⟩
                  · have HN2 : Hid (NN (4 * m + (t + 1))) := hnx2 (fun h => hte h.2)
                    rw [decide_eq_false hte] at hbe
                    clear hnx2 hfn2 hg hsI hsop hte hR
                    unfold tx at KT
                    generalize bs (textT si) = tt at *
                    obtain ⟨sop, srd, srs1, srs2, simm, saq, srl, spred, ssucc⟩ := si
                    have c0 := HBj.out.cell 0
                    have c1 := HBj.out.cell 1
                    have c2 := HBj.out.cell 2
                    have c3 := HBj.out.cell 3
                    have c4 := HBj.out.cell 4
                    have c5 := HBj.out.cell 5
                    have c6 := HBj.out.cell 6
                    have c7 := HBj.out.cell 7
                    have c8 := HBj.out.cell 8
                    simp only [insCells] at c0 c1 c2 c3 c4 c5 c6 c7 c8
                    unfold insV at KG KT
                    simp only at KG KT
                    go_upto_if 177 with (first
                      | (go_at_call 9; refine KG.mono ?_; rintro e w4 ⟨rfl, hb⟩; clear c0 c1 c2 c3 c4 c5 c6 c7 c8; have HK4 := Lib.hid (HKj.out.on hb); have HB4 := Lib.hid (HBj.out.on hb); have c0 := HB4.out.cell 0; have c1 := HB4.out.cell 1; have c2 := HB4.out.cell 2; have c3 := HB4.out.cell 3; have c4 := HB4.out.cell 4; have c5 := HB4.out.cell 5; have c6 := HB4.out.cell 6; have c7 := HB4.out.cell 7; have c8 := HB4.out.cell 8; simp only [insCells] at c0 c1 c2 c3 c4 c5 c6 c7 c8; clear hb)
                      | (go_at_call 10; refine (KT _).mono ?_; rintro e w5 ⟨rfl, hb⟩; have HK5 := Lib.hid (HK4.out.on hb); clear hb c0 c1 c2 c3 c4 c5 c6 c7 c8))
                    go_wp2
                    go_roundg (4 - (t + 1))
                    case measure => omega
                    case rel => exact ⟨t + 1, by go_num, by omega, HN2, HK5⟩
        · obtain rfl : t = 4 := by omega
          have HN2 : Hid (NN (4 * (m + 1))) := HNT.out
          go_wp2
          go_roundg (75 - (m + 1))
          case measure => omega
          case rel => exact ⟨m + 1, op + 1, rfl, by have := HOP.out; omega, by omega, HN2, HKc⟩
    · obtain rfl : m = 75 := by omega
      clear hop
      have HRR : Hid (RES = none) := hend.out HNF.out
      have HJ := HKa.out.1
      have z0 := HJ.2.1.cell 0
      have z1 := HJ.2.1.cell 1
      have z2 := HJ.2.1.cell 2
      have z3 := HJ.2.1.cell 3
      have z4 := HJ.2.1.cell 4
      have z5 := HJ.2.1.cell 5
      have z6 := HJ.2.1.cell 6
      have z7 := HJ.2.1.cell 7
      have z8 := HJ.2.1.cell 8
      have y0 := HJ.2.1.free 0
      have y1 := HJ.2.1.free 1
      have y2 := HJ.2.1.free 2
      have y3 := HJ.2.1.free 3
      have y4 := HJ.2.1.free 4
      have y5 := HJ.2.1.free 5
      have y6 := HJ.2.1.free 6
      have y7 := HJ.2.1.free 7
      have y8 := HJ.2.1.free 8
      simp only [noIns, insCells] at z0 z1 z2 z3 z4 z5 z6 z7 z8
      clear hca hnx hfnd hend HNF HKa HR
      go_wp2
      have HW := (((((((((HJ.2.1.set 0 (.int .i64 0)).set 1 (.int .i64 0)).set 2 (.int .i64 0)).set 3 (.int .i64 0)).set 4 (.int .i64 0)).set 5 (.bool false)).set 6 (.bool false)).set 7 (.int .i64 0)).set 8 (.int .i64 0))
      have HW' : Blk (insCells noIns) 23 g2 _ := HW
      rw [HRR.out]
      refine bodyPost_ret (results_blk rfl rfl HW' Tryd.underlying23 rfl (by kernel_rfl)) rfl ⟨rfl, ?_⟩
      exact ((((((((HJ.1.setCell HJ.2.2 _).setCell HJ.2.2 _).setCell HJ.2.2 _).setCell HJ.2.2 _).setCell HJ.2.2 _).setCell HJ.2.2 _).setCell HJ.2.2 _).setCell HJ.2.2 _).setCell HJ.2.2 _
end Go.Proofs.YtdpbiboldmoadaaDoor
