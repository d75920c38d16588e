/- Layer 10: what every right program answers. The document's SameTexts: two lists of texts. Layer 10: the lines of all bytes, and the names, are the document's. -/
import Derived.Test.YtolmecnjolfjgaaGreatDoorAall
import Derived.Test.YtolmecnjolfjgaaGreatDoorAlnl
import Derived.Test.YtolmecnjolfjgaaGreatDoorRows
import Derived.Test.YtolmecnjolfjgaaGreatDoorBal
import Derived.Laws.Strings
import Derived.WalkKit
import Derived.WalkLawsBesides
import Derived.WalkSmall
import Derived.WalkSpells
import Derived.Deep.LoopGhost
import Derived.Deep.QuietTactic
import Derived.BigQuiet
import Derived.Lib.Hide
import Derived.Outline
import Derived.Test.YtolmecnjolfjgaaGreatDoorArdl
import Derived.Test.YtolmecnjolfjgaaGreatDoorArxl
set_option maxRecDepth 100000
namespace Go.Proofs.YtolmecnjolfjgaaGreatDoor
open Go.RowKit

theorem lab_cell {X : World} {base c0 : Nat} {t : TypeId} {v a b : Value} (h : X.ownsRow base t 2 v c0 [a, b]) (h1 : c0 = 1) : ∃ r c, v = .slice (some ⟨r, 0, none⟩) 1 c ∧ base ≤ r ∧ r < X.heap.size ∧ X.cell? ⟨r, 1, none⟩ = some b := by
  subst h1
  rcases h.2 with ⟨_, h0⟩ | ⟨r, c, cur, rfl, hb, hg, hn, _, hs, ht⟩
  · exact absurd h0 (by simp)
  · refine ⟨r, c, rfl, hb, (Array.getElem?_eq_some_iff.1 hg).1, ?_⟩
    rw [cell_of_row X r 1 _ _ (0, 0) hg]
    have e : (cur.toList.take 2)[1]? = some b := by rw [show cur.toList.take 2 = [a, b] from ht]; rfl
    rw [List.getElem?_take] at e
    simpa using e
theorem lines_img : (linesL img10).length = 3 := by unfold linesL; rw [linesR_len]; rfl
set_option maxHeartbeats 2000000 in
theorem alive10_any {W : World} (T : Tab9 W) (T7 : Tab7 W) (w : World) (h : BW W w) : Calls Tryz.prog 10 #[] w fun e w' => e = .returned (.bool true) ∧ BW W w' ∧ Below w.heap.size w w' := by
  have KA : Calls Tryz.prog 16 #[.string ⟨#[108, 111, 111, 112, 58, 10, 97, 100, 100, 105, 32, 120, 49, 44, 32, 120, 49, 44, 32, 45, 49, 10, 98, 110, 101, 32, 120, 49, 44, 32, 120, 48, 44, 32, 108, 111, 111, 112, 10, 104, 97, 108, 116, 32, 35, 32, 101, 110, 100]⟩, .int .i64 12] w (RetAsm w 12 [(loopT, 0)] (cellsB img10)) := asm10 w (T.below h) (T7.below h)
  have KS : ∀ g b2 x, Rd x x.heap.size (some ⟨g, 0, none⟩) (cellsB img10) → Rd x x.heap.size (some ⟨b2, 0, none⟩) (cellsB img10) → Calls Tryz.prog 17 #[.slice (some ⟨g, 0, none⟩) 12 12, .slice (some ⟨b2, 0, none⟩) 12 12] x fun e w' => e = .returned (.bool true) ∧ Below x.heap.size x w' := fun g b2 x h1 h2 => by
    have := same_any (some ⟨g, 0, none⟩) (some ⟨b2, 0, none⟩) 12 12 img10 img10 x (by decide) h1 h2
    rw [decide_eq_true rfl] at this
    exact this
  have KN : ∀ x, Calls Tryz.prog 14 #[.string ⟨#[108, 111, 111, 112, 95, 49]⟩] x fun e w' => e = .returned (.bool true) ∧ Below x.heap.size x w' := fun x => by
    have := isName_c [108, 111, 111, 112, 95, 49] x
    rw [decide_eq_true (show NameT (bs [108, 111, 111, 112, 95, 49]) by decide)] at this
    exact this
  have KL : ∀ g x, Below w.heap.size w x → Rd x x.heap.size (some ⟨g, 0, none⟩) (cellsB img10) → Calls Tryz.prog 12 #[.slice (some ⟨g, 0, none⟩) 12 12] x fun e w' => ∃ A c, e = .returned (.slice A 3 c) ∧ Below x.heap.size x w' := fun g x hx hr => by
    refine (lines_c (some ⟨g, 0, none⟩) 12 img10 x (T.below (h.on hx)) (T7.below (h.on hx)) (by decide) (by decide) (by decide) (by decide) hr).mono ?_
    rintro e w' ⟨v, rfl, ho, hb⟩
    rw [lines_img] at ho
    obtain ⟨A, c, rfl, _⟩ := own_at ho
    exact ⟨A, c, rfl, hb⟩
  clear T T7
  go_enter Tryz.func10, Tryz.ntmps10
  go_upto_region 2 with (go_at_call 16; refine KA.mono ?_; rintro e w2 ⟨g, v, rfl, hc, hg, hrow, hb⟩; obtain ⟨r, c, rfl, hr, hr2, hcell⟩ := lab_cell hrow rfl)
  have hR2 : Rd w2 w2.heap.size (some ⟨g, 0, none⟩) (cellsB img10) := Rd.of_row hc
  have HB2 := Lib.hid hb
  clear hrow hc hb
  go_wp2_with (first
    | (go_at_call 17; refine (KS g _ _ (hR2.now ((Below.refl _ _).alloc (Nat.le_refl _) _)) (Rd.of_row (t := 5) (xs := cellsB img10) (heap_alloc_new w2 _))).mono ?_; rintro e w3 ⟨rfl, hb3⟩; have HB3 := Lib.hid ((HB2.out.alloc HB2.out.size _).trans (hb3.mono (by have := HB2.out.size; simp; omega))); have HR3 := Lib.hid ((hR2.now ((Below.refl _ _).alloc (Nat.le_refl _) _)).now hb3); clear hb3)
    | (go_at_call 14; refine (KN _).mono ?_; rintro e w4 ⟨rfl, hb4⟩; have HB4 := Lib.hid (HB3.out.trans (hb4.mono HB3.out.size)); have HR4 := Lib.hid (HR3.out.now hb4); clear hb4)
    | (go_at_call 12; refine (KL g _ HB4.out HR4.out).mono ?_; rintro e w5 ⟨A, c', rfl, hb5⟩; have HB5 := Lib.hid (HB4.out.trans (hb5.mono HB4.out.size)); clear hb5))
  go_ret
  exact ⟨rfl, h.on HB5.out, HB5.out⟩
end Go.Proofs.YtolmecnjolfjgaaGreatDoor
namespace Go.Proofs.YtolmecnjolfjgaaGreatDoor
open Go.RowKit

theorem below_drewT {B : Nat} {a w : World} (h : Below B a w) (n : Nat) : Below B a (w.drewN n) := ⟨h.os, h.tape, h.output, h.size, h.block⟩
theorem bytes_inj {a b : ByteArray} (h : a.toList = b.toList) : a = b := by
  rw [ByteArray.toList_eq, ByteArray.toList_eq] at h
  cases a; cases b; simpa [Array.toList_inj] using h
/-- A list of texts, as cells. -/
def cellsT (l : List ByteArray) : List Value := l.map Value.string

theorem sameTexts_any (A A' : Option Addr) (cap cap' : Nat) (l l' : List ByteArray) (w : World) (hl : l.length ≤ 9223372036854775807)
    (hr : Rd w w.heap.size A (cellsT l)) (hr' : Rd w w.heap.size A' (cellsT l')) :
    Calls Tryz.prog 11 #[.slice A l.length cap, .slice A' l'.length cap'] w fun e w' => e = .returned (.bool (decide (l = l'))) ∧ Below w.heap.size w w' := by
  by_cases hne : l.length = l'.length
  · have hb : ((l.length : Int) != l'.length) = false := by simp [hne]
    have HN := Lib.hid hne; clear hne
    go_enter Tryz.func11, Tryz.ntmps11
    go_wp2
    go_loopw [5] (fun i wx => Below w.heap.size w wx ∧ ∃ k : Nat, k ≤ l.length ∧ i = .int .i64 k ∧ l.take k = l'.take k) (fun i _ => l.length - (intOf i).toNat)
    case atStart => exact ⟨Below.refl _ _, 0, by omega, rfl, by simp⟩
    case round =>
      obtain ⟨hbl, k, hk, rfl, htk⟩ := hrel
      have HT := Lib.hid htk; clear htk
      by_cases hlt : k < l.length
      · obtain ⟨b, off, rfl, _, hc⟩ := (hr.below hbl).at (i := k) (by unfold cellsT; rw [List.length_map]; exact hlt)
        obtain ⟨b', off', rfl, _, hc'⟩ := (hr'.below hbl).at (i := k) (by unfold cellsT; rw [List.length_map, ← HN.out]; exact hlt)
        simp only [cellsT, List.getElem_map] at hc hc'
        have hltI : (k : Int) < l.length := by omega
        have hltJ : (k : Int) < l'.length := by have := HN.out; omega
        by_cases he : l[k] = l'[k]'(by have := HN.out; omega)
        · have ht : (!(l[k].toList == (l'[k]'(by have := HN.out; omega)).toList)) = false := by rw [Bool.not_eq_false', beq_iff_eq, he]
          have HE := Lib.hid he; clear he
          go_wp2
          go_quiet (fail)
          go_wp2
          go_roundw
          case rel =>
            refine ⟨below_drewT hbl _, k + 1, by omega, by go_num, ?_⟩
            rw [List.take_succ_eq_append_getElem hlt, List.take_succ_eq_append_getElem (by have := HN.out; omega), HT.out, HE.out]
          case measure => simp [intOf]; omega
        · have ht : (!(l[k].toList == (l'[k]'(by have := HN.out; omega)).toList)) = true := by rw [Bool.not_eq_true', beq_eq_false_iff_ne]; exact fun e => he (bytes_inj e)
          have HE := Lib.hid he; clear he
          go_wp2
          go_quiet (fail)
          go_wp2
          go_ret
          refine ⟨ret_bool (Eq.symm (decide_eq_false fun e => HE.out ?_)), below_drewT hbl _⟩
          simp only [e]
      · go_wp2
        go_ret
        refine ⟨ret_bool (Eq.symm (decide_eq_true ?_)), hbl⟩
        have ht := HT.out
        rwa [List.take_of_length_le (by omega), List.take_of_length_le (by have := HN.out; omega)] at ht
  · have hb : ((l.length : Int) != l'.length) = true := by simp; omega
    have HN := Lib.hid hne; clear hne
    go_enter Tryz.func11, Tryz.ntmps11
    go_wp2
    go_ret
    exact ⟨ret_bool (Eq.symm (decide_eq_false fun e => HN.out (by rw [e]))), Below.refl _ _⟩

end Go.Proofs.YtolmecnjolfjgaaGreatDoor
namespace Go.Proofs.YtolmecnjolfjgaaGreatDoor
open Go.RowKit

theorem txs_cells (l : List (List UInt8)) : txs l = cellsT (l.map bs) := by unfold txs cellsT; rw [List.map_map]; rfl
set_option maxHeartbeats 2000000 in
theorem lines_law {W : World} (T : Tab9 W) (T7 : Tab7 W) (A : Option Addr) (cap : Nat) (B : List Int) (q : ByteArray) (hb : Byts B) (hn : B.length ≤ 9223372036854775807) (hc : B.length ≤ cap) (hc2 : cap ≤ 9223372036854775807) (hr : Rd W W.heap.size A (cellsB B)) :
    Calls Tryz.prog 3 #[.slice A B.length cap, .string q] W fun e w' => e = .returned (.bool true) ∧ Below W.heap.size W w' := by
  have KA := fun x (hx : BW W x) => (alive10_any T T7 x hx).mono fun e w' ⟨h1, _, h3⟩ => (⟨h1, h3⟩ : _ ∧ Below x.heap.size x w')
  have HB : Hid (Below W.heap.size W W) := Below.refl _ _
  by_cases h0 : B.length ≤ 1100 ∧ q.size ≤ 100
  · obtain ⟨h1, h2⟩ := h0
    obtain ⟨D, rfl⟩ : ∃ D, bs D = q := ⟨q.data.toList, by simp [bs]⟩
    have d1 : decide ((1100 : Int) < B.length) = false := decide_eq_false (by omega)
    have d2 : decide ((100 : Int) < (bs D).size) = false := decide_eq_false (by omega)
    have KL := fun x (hx : BW W x) => (lines_c A cap B x (T.below hx) (T7.below hx) hb h1 hc hc2 (hr.now hx)).mono fun e w' ⟨v, he, ho, hb⟩ => (he ▸ RetS.of_own ho hb : RetS x (linesL B) e w')
    have KR := fun x (hx : BW W x) => (rlines_any A cap B x hb h1 hc hc2 (hr.now hx)).mono fun e w' ⟨v, he, ho, hb⟩ => (he ▸ RetS.of_own ho hb : RetS x (linesL B) e w')
    have hll : (linesL B).length ≤ 9223372036854775807 := by unfold linesL; rw [linesR_len]; omega
    have KS := fun A1 c1 A2 c2 x (g1 : Rd x x.heap.size A1 (txs (linesL B))) (g2 : Rd x x.heap.size A2 (txs (linesL B))) => by
      have := sameTexts_any A1 A2 c1 c2 ((linesL B).map bs) ((linesL B).map bs) x (by rw [List.length_map]; exact hll) (by rw [← txs_cells]; exact g1) (by rw [← txs_cells]; exact g2)
      rw [List.length_map, decide_eq_true rfl] at this
      exact this
    have KN := fun x => isName_c D x
    have KM := fun x => rname10_any (bs D) x
    unfold tx at KN
    unfold RetS at KL KR
    generalize (linesL B).length = m at *
    generalize txs (linesL B) = xs at *
    generalize decide (NameT (bs D)) = nb at *
    clear T T7 hb hr
    go_enter Tryz.func3, Tryz.ntmps3
    go_upto_region 5 with (first
      | (go_at_call 10; refine (KA _ HB.out).mono ?_; rintro e w2 ⟨rfl, hb2⟩; have HB2 := Lib.hid (HB.out.trans hb2); clear hb2))
    go_wp2_with (first
      | (go_at_call 10; refine (KA _ HB2.out).mono ?_; rintro e w3 ⟨rfl, hb3⟩; have HB3 := Lib.hid (HB2.out.trans (hb3.mono HB2.out.size)); clear hb3)
      | (go_at_call 12; refine (KL _ HB3.out).mono ?_; rintro e w4 ⟨A1, c1, rfl, g1, hb4⟩; have HB4 := Lib.hid (HB3.out.trans (hb4.mono HB3.out.size)); have HG1 := Lib.hid g1; clear hb4 g1)
      | (go_at_call 13; refine (KR _ HB4.out).mono ?_; rintro e w5 ⟨A2, c2, rfl, g2, hb5⟩; have HB5 := Lib.hid (HB4.out.trans (hb5.mono HB4.out.size)); have HG2 := Lib.hid g2; have HG3 := Lib.hid (HG1.out.now hb5); clear hb5 g2)
      | (go_at_call 11; refine (KS _ _ _ _ _ HG3.out HG2.out).mono ?_; rintro e w6 ⟨rfl, hb6⟩; have HB6 := Lib.hid (HB5.out.trans (hb6.mono HB5.out.size)); clear hb6)
      | (go_at_call 14; refine (KN _).mono ?_; rintro e w7 ⟨rfl, hb7⟩; have HB7 := Lib.hid (HB6.out.trans (hb7.mono HB6.out.size)); clear hb7)
      | (go_at_call 15; refine (KM _).mono ?_; rintro e w8 ⟨rfl, rfl⟩))
    go_ret
    exact ⟨by simp, HB7.out⟩
  · have hnb : ¬ B.length ≤ 1100 ∨ ¬ q.size ≤ 100 := by omega
    clear T T7 hb hr
    rcases hnb with h1 | h1
    · have d1 : decide ((1100 : Int) < B.length) = true := decide_eq_true (by omega)
      go_enter Tryz.func3, Tryz.ntmps3
      go_upto_region 4 with (first
        | (go_at_call 10; refine (KA _ HB.out).mono ?_; rintro e w2 ⟨rfl, hb2⟩; have HB2 := Lib.hid (HB.out.trans hb2); clear hb2))
      go_wp2_with (first
        | (go_at_call 10; refine (KA _ HB2.out).mono ?_; rintro e w3 ⟨rfl, hb3⟩; have HB3 := Lib.hid (HB2.out.trans (hb3.mono HB2.out.size)); clear hb3))
      go_ret
      exact ⟨rfl, HB3.out⟩
    · have d2 : decide ((100 : Int) < q.size) = true := decide_eq_true (by omega)
      by_cases h2 : (1100 : Int) < B.length
      · have d1 : decide ((1100 : Int) < B.length) = true := decide_eq_true h2
        go_enter Tryz.func3, Tryz.ntmps3
        go_upto_region 4 with (first
          | (go_at_call 10; refine (KA _ HB.out).mono ?_; rintro e w2 ⟨rfl, hb2⟩; have HB2 := Lib.hid (HB.out.trans hb2); clear hb2))
        go_wp2_with (first
          | (go_at_call 10; refine (KA _ HB2.out).mono ?_; rintro e w3 ⟨rfl, hb3⟩; have HB3 := Lib.hid (HB2.out.trans (hb3.mono HB2.out.size)); clear hb3))
        go_ret
        exact ⟨rfl, HB3.out⟩
      · have d1 : decide ((1100 : Int) < B.length) = false := decide_eq_false h2
        go_enter Tryz.func3, Tryz.ntmps3
        go_upto_region 4 with (first
          | (go_at_call 10; refine (KA _ HB.out).mono ?_; rintro e w2 ⟨rfl, hb2⟩; have HB2 := Lib.hid (HB.out.trans hb2); clear hb2))
        go_wp2_with (first
          | (go_at_call 10; refine (KA _ HB2.out).mono ?_; rintro e w3 ⟨rfl, hb3⟩; have HB3 := Lib.hid (HB2.out.trans (hb3.mono HB2.out.size)); clear hb3))
        go_ret
        exact ⟨rfl, HB3.out⟩
end Go.Proofs.YtolmecnjolfjgaaGreatDoor
