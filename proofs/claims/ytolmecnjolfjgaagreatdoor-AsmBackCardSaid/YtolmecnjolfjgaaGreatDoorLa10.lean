/- Layer 10: what every right program answers. -/
import Derived.Test.YtolmecnjolfjgaaGreatDoorAal
import Derived.Test.YtolmecnjolfjgaaGreatDoorAln
set_option maxRecDepth 100000
namespace Go.Proofs.YtolmecnjolfjgaaGreatDoor
open Go.RowKit

theorem lab_cell {X : World} {base c0 : Nat} {t : TypeId} {v a b : Value} (h : X.ownsRow base t 2 v c0 [a, b]) (h1 : c0 = 1) : ∃ r c, v = .slice (some ⟨r, 0, none⟩) 1 c ∧ base ≤ r ∧ r < X.heap.size ∧ X.cell? ⟨r, 1, none⟩ = some b := by
  subst h1
  rcases h.2 with ⟨_, h0⟩ | ⟨r, c, cur, rfl, hb, hg, hn, _, hs, ht⟩
  · exact absurd h0 (by simp)
  · refine ⟨r, c, rfl, hb, (Array.getElem?_eq_some_iff.1 hg).1, ?_⟩
    rw [cell_of_row X r 1 _ _ (0, 0) hg]
    have e : (cur.toList.take 2)[1]? = some b := by rw [show cur.toList.take 2 = [a, b] from ht]; rfl
    rw [List.getElem?_take] at e
    simpa using e
theorem img_len : img10.length = 12 := rfl
theorem lines_img : (linesL img10).length = 3 := by unfold linesL; rw [linesR_len]; rfl
set_option maxHeartbeats 2000000 in
theorem alive10_any {W : World} (T : Tab9 W) (T7 : Tab7 W) (w : World) (h : BW W w) : Calls Tryz.prog 10 #[] w fun e w' => e = .returned (.bool true) ∧ BW W w' ∧ Below w.heap.size w w' := by
  have KA : Calls Tryz.prog 16 #[.string ⟨#[108, 111, 111, 112, 58, 10, 97, 100, 100, 105, 32, 120, 49, 44, 32, 120, 49, 44, 32, 45, 49, 10, 98, 110, 101, 32, 120, 49, 44, 32, 120, 48, 44, 32, 108, 111, 111, 112, 10, 104, 97, 108, 116, 32, 35, 32, 101, 110, 100]⟩, .int .i64 12] w (RetAsm w 12 [(loopT, 0)] (cellsB img10)) := asm10 w (T.below h) (T7.below h)
  have KS : ∀ g b2 x, Rd x x.heap.size (some ⟨g, 0, none⟩) (cellsB img10) → Rd x x.heap.size (some ⟨b2, 0, none⟩) (cellsB img10) → Calls Tryz.prog 17 #[.slice (some ⟨g, 0, none⟩) 12 12, .slice (some ⟨b2, 0, none⟩) 12 12] x fun e w' => e = .returned (.bool true) ∧ Below x.heap.size x w' := fun g b2 x h1 h2 => by
    have := same_any (some ⟨g, 0, none⟩) (some ⟨b2, 0, none⟩) 12 12 img10 img10 x (by decide) h1 h2
    rw [decide_eq_true rfl] at this
    exact this
  have KN : ∀ x, Calls Tryz.prog 14 #[.string ⟨#[108, 111, 111, 112, 95, 49]⟩] x fun e w' => e = .returned (.bool true) ∧ Below x.heap.size x w' := fun x => by
    have := isName_c [108, 111, 111, 112, 95, 49] x
    rw [decide_eq_true (show NameT (bs [108, 111, 111, 112, 95, 49]) by decide)] at this
    exact this
  have KL : ∀ g x, Below w.heap.size w x → Rd x x.heap.size (some ⟨g, 0, none⟩) (cellsB img10) → Calls Tryz.prog 12 #[.slice (some ⟨g, 0, none⟩) 12 12] x fun e w' => ∃ A c, e = .returned (.slice A 3 c) ∧ Below x.heap.size x w' := fun g x hx hr => by
    refine (lines_c (some ⟨g, 0, none⟩) 12 img10 x (T.below (h.on hx)) (T7.below (h.on hx)) (by decide) (by decide) (by decide) (by decide) hr).mono ?_
    rintro e w' ⟨v, rfl, ho, hb⟩
    rw [lines_img] at ho
    obtain ⟨A, c, rfl, _⟩ := own_at ho
    exact ⟨A, c, rfl, hb⟩
  clear T T7
  go_enter Tryz.func10, Tryz.ntmps10
  go_upto_region 2 with (go_at_call 16; refine KA.mono ?_; rintro e w2 ⟨g, v, rfl, hc, hg, hrow, hb⟩; obtain ⟨r, c, rfl, hr, hr2, hcell⟩ := lab_cell hrow rfl)
  have hR2 : Rd w2 w2.heap.size (some ⟨g, 0, none⟩) (cellsB img10) := Rd.of_row hc
  have HB2 := Lib.hid hb
  clear hrow hc hb
  go_wp2_with (first
    | (go_at_call 17; refine (KS g _ _ (hR2.now ((Below.refl _ _).alloc (Nat.le_refl _) _)) (Rd.of_row (t := 5) (xs := cellsB img10) (heap_alloc_new w2 _))).mono ?_; rintro e w3 ⟨rfl, hb3⟩; have HB3 := Lib.hid ((HB2.out.alloc HB2.out.size _).trans (hb3.mono (by have := HB2.out.size; simp; omega))); have HR3 := Lib.hid ((hR2.now ((Below.refl _ _).alloc (Nat.le_refl _) _)).now hb3); clear hb3)
    | (go_at_call 14; refine (KN _).mono ?_; rintro e w4 ⟨rfl, hb4⟩; have HB4 := Lib.hid (HB3.out.trans (hb4.mono HB3.out.size)); have HR4 := Lib.hid (HR3.out.now hb4); clear hb4)
    | (go_at_call 12; refine (KL g _ HB4.out HR4.out).mono ?_; rintro e w5 ⟨A, c', rfl, hb5⟩; have HB5 := Lib.hid (HB4.out.trans (hb5.mono HB4.out.size)); clear hb5))
  go_ret
  exact ⟨rfl, h.on HB5.out, HB5.out⟩
end Go.Proofs.YtolmecnjolfjgaaGreatDoor
