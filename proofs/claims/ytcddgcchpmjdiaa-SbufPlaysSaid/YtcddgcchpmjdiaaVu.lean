/- Layer 13: a buffer of a call's own; alive; SbufNone. -/
import Derived.Test.YtcddgcchpmjdiaaVr
import Derived.Test.YtcddgcchpmjdiaaVt
set_option maxRecDepth 100000
set_option linter.unusedVariables false
namespace Go.Proofs.Ytcddgcchpmjdiaa
open Go.RowKit

/-- A buffer whose blocks are all beyond W. -/
def OB (W : World) (g : Nat) (s : Bst) (w : World) : Prop := BsOk s ∧ ∃ p : Bpl, BufAt s p w ∧ p.g = g ∧ (∀ i ∈ p.foot, W.heap.size ≤ i) ∧ BW W w
theorem OB.on {W w w' : World} {g : Nat} {s : Bst} (h : OB W g s w) (k : BW w w') : OB W g s w' := by
  obtain ⟨h0, p, h1, h2, h3, h4⟩ := h
  exact ⟨h0, p, h1.on k, h2, h3, h4.on k⟩
theorem OB.low {W w : World} {g : Nat} {s : Bst} (h : OB W g s w) : BW W w := by
  obtain ⟨_, p, _, _, _, h4⟩ := h
  exact h4
theorem OB.ok {W w : World} {g : Nat} {s : Bst} (h : OB W g s w) : BsOk s := h.1
theorem OB.new {W w : World} (k : BW W w) : OB W w.heap.size ⟨[], 0⟩ (w.alloc (.cells #[.slice none 0 0, .int .i64 0] 27)) := by
  refine ⟨BsOk.zero, ⟨w.heap.size, .slice none 0 0, []⟩, ⟨rfl, Blk.new _ _ _, World.ownsRow_nil _ _ _ _, by simp, by simp [Bpl.foot, Value.ownBlock]⟩, rfl, ?_, BW.new k _⟩
  intro i hi
  have : i = w.heap.size := by simpa [Bpl.foot, Value.ownBlock] using hi
  rw [this]
  exact Below.size k
theorem OB.put {W w : World} {g : Nat} {s : Bst} (h : OB W g s w) (x : Wr) (hb : x.addr ≤ 9223372036854775807) (h0 : 0 ≤ x.data) (h1 : x.data < 2 ^ 64) :
    Calls Try.prog 10 #[.pointer (some ⟨g, 0, none⟩), .agg #[.int .i64 x.id, .int .i64 x.addr, .int .i64 x.size, .int .u64 x.data]] w fun e w' => e = .returned (.bool (placeN s x).2) ∧ OB W g (putB s x) w' ∧ ∃ p : Bpl, (∀ i ∈ p.foot, W.heap.size ≤ i) ∧ Fr p.foot w w' := by
  obtain ⟨hok, p, g1, rfl, g3, g4⟩ := h
  refine (put_c g1 hok x hb h0 h1).mono ?_
  rintro e w' ⟨rfl, p', f1, f2, f3, f4⟩
  refine ⟨rfl, ⟨hok.put x h0 h1, p', f1, f2, fun i hi => ?_, Below.trans g4 (f4.below g3 g4.size)⟩, p, g3, f4⟩
  rcases f3 i hi with h5 | h5
  · exact g3 i h5
  · have := Below.size g4; omega
theorem OB.bar {W w : World} {g : Nat} {s : Bst} (h : OB W g s w) (hE : s.ep ≤ 1000000) :
    Calls Try.prog 12 #[.pointer (some ⟨g, 0, none⟩)] w fun e w' => e = .returned (.tuple #[]) ∧ OB W g (barB s) w' ∧ ∃ p : Bpl, (∀ i ∈ p.foot, W.heap.size ≤ i) ∧ Fr p.foot w w' := by
  obtain ⟨hok, p, g1, rfl, g3, g4⟩ := h
  refine (barrier_c g1 hok hE).mono ?_
  rintro e w' ⟨rfl, f1, f2⟩
  have hg : W.heap.size ≤ p.g := g3 p.g (by rw [foot_eq]; simp)
  have hb := f2.below (B := W.heap.size) (fun i hi => by have : i = p.g := by simpa using hi
                                                         rw [this]; exact hg) g4.size
  refine ⟨rfl, ⟨hok.bar, p, f1, rfl, g3, Below.trans g4 hb⟩, p, g3, ?_⟩
  exact ⟨f2.os, f2.tape, f2.output, f2.size, fun k hk hn => f2.block k hk (fun hm => hn (by rw [foot_eq]; simp at hm; rw [hm]; simp))⟩
theorem OB.dra {W w : World} {g : Nat} {s : Bst} (h : OB W g s w) (q : Int) :
    Calls Try.prog 15 #[.pointer (some ⟨g, 0, none⟩), .int .i64 q] w fun e w' => (∃ v, e = .returned v ∧ w'.ownsRow W.heap.size 34 4 v (outB s q).length (cellsW (outB s q))) ∧ OB W g (draB s q) w' ∧ ∃ p : Bpl, (∀ i ∈ p.foot, W.heap.size ≤ i) ∧ Fr p.foot w w' := by
  obtain ⟨hok, p, g1, rfl, g3, g4⟩ := h
  refine (drain_c g1 hok q).mono ?_
  rintro e w' ⟨v, p', rfl, f1, f2, f3, f4, f5, f6⟩
  refine ⟨⟨v, rfl, f1.1, ?_⟩, ⟨hok.dra q, p', f2, f3, fun i hi => g3 i (f4 i hi), Below.trans g4 (f6.below g3 g4.size)⟩, p, g3, f6⟩
  rcases f1.2 with h1 | ⟨b, cap, cur, hv, _, hr⟩
  · exact .inl h1
  · exact .inr ⟨b, cap, cur, hv, g3 b (f5 b (by rw [hv]; rfl)).1, hr⟩
theorem OB.fits {W w : World} {g : Nat} {s : Bst} (h : OB W g s w) (x : Wr) (hb : x.addr ≤ 9223372036854775807) :
    Calls Try.prog 9 #[.pointer (some ⟨g, 0, none⟩), .agg #[.int .i64 x.id, .int .i64 x.addr, .int .i64 x.size, .int .u64 x.data]] w fun e w' => e = .returned (.bool (placeN s x).2) ∧ BW w w' := by
  obtain ⟨hok, p, g1, rfl, _⟩ := h
  exact fits_c g1 hok x hb
theorem OB.find {W w : World} {g : Nat} {s : Bst} (h : OB W g s w) (q : Int) :
    Calls Try.prog 17 #[.pointer (some ⟨g, 0, none⟩), .int .i64 q] w fun e w' => e = .returned (findV (findB s q)) ∧ BW w w' := by
  obtain ⟨hok, p, g1, rfl, _⟩ := h
  exact find_c g1 hok q
theorem OB.over {W w : World} {g : Nat} {s : Bst} (h : OB W g s w) (a z : Int) :
    Calls Try.prog 19 #[.pointer (some ⟨g, 0, none⟩), .int .i64 a, .int .i64 z] w fun e w' => e = .returned (.bool (ovB s a z)) ∧ BW w w' := by
  obtain ⟨hok, p, g1, rfl, _⟩ := h
  exact over_c g1 hok a z
theorem OB.empty {W w : World} {g : Nat} {s : Bst} (h : OB W g s w) :
    Calls Try.prog 24 #[.pointer (some ⟨g, 0, none⟩)] w fun e w' => e = .returned (.bool (decide (s.es.length = 0))) ∧ w = w' := by
  obtain ⟨hok, p, g1, rfl, _⟩ := h
  exact empty_c g1 hok
theorem OB.elder {W w : World} {g : Nat} {s : Bst} (h : OB W g s w) :
    Calls Try.prog 25 #[.pointer (some ⟨g, 0, none⟩)] w fun e w' => e = .returned (.bool (eldB s)) ∧ BW w w' := by
  obtain ⟨hok, p, g1, rfl, _⟩ := h
  exact elder_c g1 hok
theorem OB.ready {W w : World} {g : Nat} {s : Bst} (h : OB W g s w) :
    Calls Try.prog 22 #[.pointer (some ⟨g, 0, none⟩)] w (RetOwn w 3 1 (rdyI s s.es.length).length (cellsI (rdyI s s.es.length))) := by
  obtain ⟨hok, p, g1, rfl, _⟩ := h
  exact ready_c g1 hok
theorem OB.entries {W w : World} {g : Nat} {s : Bst} (h : OB W g s w) :
    Calls Try.prog 23 #[.pointer (some ⟨g, 0, none⟩)] w (RetRows w (s.es.map Ent.st)) := by
  obtain ⟨hok, p, g1, rfl, _⟩ := h
  exact entries_c g1 hok

/-! ### alive -/
def al1 : Bst := putB ⟨[], 0⟩ ⟨1, 0, 4, 5⟩
def al2 : Bst := putB al1 ⟨2, 4, 4, 0⟩
def al3 : Bst := barB al2
def al4 : Bst := putB al3 ⟨3, 0, 1, 9⟩
theorem al_facts : (placeN ⟨[], 0⟩ ⟨1, 0, 4, 5⟩).2 = true ∧ (placeN al1 ⟨2, 4, 4, 0⟩).2 = true ∧ (placeN al3 ⟨3, 0, 1, 9⟩).2 = true ∧ findB al4 0 = (9, 3, true) ∧ (al4.es.map Ent.st).length = 2 ∧ rdyI al4 al4.es.length = [0] ∧ eldB al4 = true ∧ (outB al4 0).length = 2 ∧ al2.ep = 0 := by decide
set_option maxHeartbeats 4000000 in
theorem alive13_any (W : World) : Calls Try.prog 8 #[] W fun e w' => e = .returned (.bool true) ∧ BW W w' := by
  obtain ⟨f1, f2, f3, f4, f5, f6, f7, f8, f9⟩ := al_facts
  have HS0 := Lib.hid (OB.new (W := W) (w := W) (Below.refl _ _))
  have H1 := Lib.hid (fun X (h : OB W W.heap.size ⟨[], 0⟩ X) => h.put ⟨1, 0, 4, 5⟩ (by decide) (by decide) (by decide))
  have H2 := Lib.hid (fun X (h : OB W W.heap.size al1 X) => h.put ⟨2, 4, 4, 0⟩ (by decide) (by decide) (by decide))
  have H3 := Lib.hid (fun X (h : OB W W.heap.size al2 X) => h.bar (by rw [f9]; decide))
  have H4 := Lib.hid (fun X (h : OB W W.heap.size al3 X) => h.put ⟨3, 0, 1, 9⟩ (by decide) (by decide) (by decide))
  have H5 := Lib.hid (fun X (h : OB W W.heap.size al4 X) => h.find 0)
  have H6 := Lib.hid (fun X (h : OB W W.heap.size al4 X) => h.entries)
  have H7 := Lib.hid (fun X (h : OB W W.heap.size al4 X) => h.ready)
  have H8 := Lib.hid (fun X (h : OB W W.heap.size al4 X) => h.elder)
  have H9 := Lib.hid (fun X (h : OB W W.heap.size al4 X) => h.dra 0)
  rw [f1] at H1
  rw [f2] at H2
  rw [f3] at H4
  rw [f4] at H5
  rw [f6] at H7
  rw [f7] at H8
  have F5 := Lib.hid f5
  have F8 := Lib.hid f8
  clear f1 f2 f3 f4 f5 f6 f7 f8 f9
  go_enter Try.func8, Try.ntmps8
  have HSI : Hid (∀ (X : World) (A : Option Addr) (c : Nat), Rd X X.heap.size A (cellsI [0]) → Calls Try.prog 29 #[.slice A 1 c, .slice (some ⟨X.heap.size, 0, none⟩) 1 1] (X.alloc (.cells #[.int .i64 0] 3)) fun e w' => e = .returned (.bool true) ∧ Below X.heap.size X w') := Lib.hid (fun X A c hr => by
    have hb := BW.new (Below.refl X.heap.size X) (.cells #[.int .i64 0] 3)
    refine (sameInts_at A (some ⟨X.heap.size, 0, none⟩) c 1 [0] [0] 1 _ rfl rfl (by decide) ((hr.below hb).mono (Below.size hb)) (.inr ⟨X.heap.size, 0, rfl, by simp, fun i v hv => ?_⟩)).mono ?_
    · have hi : i = 0 := by have := (List.getElem?_eq_some_iff.1 hv).1; simp [cellsI] at this; exact this
      subst hi
      have e : v = .int .i64 0 := by simpa [cellsI] using hv.symm
      rw [e]
      exact (Blk.new #[.int .i64 0] 3 X).cell 0
    · rintro e w' ⟨rfl, hb'⟩
      exact ⟨by simp, hb.on hb'⟩)
  go_wp2_with (first
    | (go_at_call 10; refine (H1.out _ HS0.out).mono ?_; rintro e w1 ⟨rfl, hs, _⟩; have HS1 := Lib.hid hs; clear hs H1)
    | (go_at_call 10; refine (H2.out _ HS1.out).mono ?_; rintro e w2 ⟨rfl, hs, _⟩; have HS2 := Lib.hid hs; clear hs H2)
    | (go_at_call 12; refine (H3.out _ HS2.out).mono ?_; rintro e w3 ⟨rfl, hs, _⟩; have HS3 := Lib.hid hs; clear hs H3)
    | (go_at_call 10; refine (H4.out _ HS3.out).mono ?_; rintro e w4 ⟨rfl, hs, _⟩; have HS4 := Lib.hid hs; clear hs H4)
    | (go_at_call 17; refine (H5.out _ HS4.out).mono ?_; unfold findV; rintro e w5 ⟨rfl, hb5⟩; have HS5 := Lib.hid (HS4.out.on hb5))
    | (go_at_call 23; refine (H6.out _ HS5.out).mono ?_; rintro e w6 ⟨v6, rfl, ⟨vs6, ho6, _⟩, hb6⟩; obtain ⟨A6, c6, rfl⟩ := own_shape ho6; rw [F5.out]; clear ho6; have HS6 := Lib.hid (HS5.out.on hb6))
    | (go_at_call 22; refine (H7.out _ HS6.out).mono ?_; rintro e w7 ⟨v7, rfl, ho7, hb7⟩; obtain ⟨A7, c7, rfl⟩ := own_shape ho7; have HR7 := Lib.hid (Rd.of_own ho7); clear ho7; have HS7 := Lib.hid (HS6.out.on hb7); simp only [List.length_cons, List.length_nil, Nat.zero_add])
    | (go_at_call 29; refine (HSI.out _ _ _ HR7.out).mono ?_; rintro e w8 ⟨rfl, hb8⟩; have HS8 := Lib.hid (HS7.out.on hb8))
    | (go_at_call 25; refine (H8.out _ HS8.out).mono ?_; rintro e w9 ⟨rfl, hb9⟩; have HS9 := Lib.hid (HS8.out.on hb9))
    | (go_at_call 15; refine (H9.out _ HS9.out).mono ?_; rintro e w10 ⟨⟨v10, rfl, ho10⟩, hs, _⟩; obtain ⟨A10, c10, rfl⟩ := own_shape ho10; rw [F8.out]; clear ho10; have HS10 := Lib.hid hs; clear hs))
  go_ret
  exact ⟨rfl, HS10.out.low⟩
end Go.Proofs.Ytcddgcchpmjdiaa
