/- The buffer: of which entry a store would be; Fits, Find, Overlaps, Empty, Elder, Barrier. -/
import Derived.Test.YtcddgcchpmjdiaaVc
set_option maxRecDepth 100000
set_option linter.unusedVariables false
namespace Go.Proofs.Ytcddgcchpmjdiaa
open Go.RowKit

theorem placeN_no {s : Bst} {x : Wr} (h : mayW x = false) : placeN s x = (0, false) := by
  unfold placeN
  rw [if_neg (by rw [h]; decide)]
theorem placeN_none {s : Bst} {x : Wr} (h : mayW x = true) (hq : seekN (sameBk x) s.es = none) : placeN s x = (s.es.length, decide (s.es.length < 4)) := by
  unfold placeN
  rw [if_pos h, hq]
theorem placeN_old {s : Bst} {x : Wr} {q : Nat × Wr} (h : mayW x = true) (hq : seekN (sameBk x) s.es = some q) (he : ¬ (s.es.getD q.1 ent0).ep = s.ep) : placeN s x = (s.es.length, decide (s.es.length < 4)) := by
  unfold placeN
  rw [if_pos h, hq]
  exact if_neg he
theorem placeN_there {s : Bst} {x : Wr} {q : Nat × Wr} (h : mayW x = true) (hq : seekN (sameBk x) s.es = some q) (he : (s.es.getD q.1 ent0).ep = s.ep) : placeN s x = (q.1, decide ((s.es.getD q.1 ent0).st.length < 8)) := by
  unfold placeN
  rw [if_pos h, hq]
  exact if_pos he
theorem place_nil (x : Wr) (w : World) : Calls Try.prog 30 #[.pointer none, .agg #[.int .i64 x.id, .int .i64 x.addr, .int .i64 x.size, .int .u64 x.data]] w fun e w' => e = .returned (.tuple #[.int .i64 0, .bool false]) ∧ BW w w' := by
  obtain ⟨i, a, z, d⟩ := x
  dsimp only
  go_enter Try.func30, Try.ntmps30
  go_wp2
  go_ret2
  exact ⟨rfl, BW.new (Below.refl _ _) _⟩
set_option maxHeartbeats 2000000 in
theorem place_c {s : Bst} {p : Bpl} {w : World} (h : BufAt s p w) (hok : BsOk s) (x : Wr) (hb : x.addr ≤ 9223372036854775807) :
    Calls Try.prog 30 #[.pointer (some ⟨p.g, 0, none⟩), .agg #[.int .i64 x.id, .int .i64 x.addr, .int .i64 x.size, .int .u64 x.data]] w fun e w' => e = .returned (.tuple #[.int .i64 ((placeN s x).1 : Nat), .bool (placeN s x).2]) ∧ BW w w' := by
  have HM := Lib.hid (may_any x hb)
  have hbx : Blk (wrCells x) 34 w.heap.size (w.alloc (.cells (wrCells x) 34)) := Blk.new _ _ _
  have h1 : BW w (w.alloc (.cells (wrCells x) 34)) := BW.new (Below.refl _ _) _
  cases hm : mayW x with
  | false =>
    rw [hm] at HM
    rw [placeN_no hm]
    clear hm hb
    obtain ⟨i, a, z, d⟩ := x
    dsimp only at *
    go_enter Try.func30, Try.ntmps30
    go_wp2_with (go_at_call 45; refine (HM.out _).mono ?_; rintro e w2 ⟨rfl, hb2⟩)
    go_ret2
    exact ⟨rfl, h1.on hb2⟩
  | true =>
    rw [hm] at HM
    have hmo := mayW_out hm
    have HSK := Lib.hid (fun X (hX : BW w X) (hB : Blk (wrCells x) 34 w.heap.size X) => seekP_c (h.on hX) hok (B := w.heap.size) (x := x) (by omega) hB)
    obtain ⟨A, cap, hve, hA⟩ := h.reads
    have hst := h.stores hok
    have hl := hok.len
    have hw := fun X (hX : BW w X) => (h.on hX).head
    cases hq : seekN (sameBk x) s.es with
    | none =>
      rw [hq] at HSK
      rw [placeN_none hm hq]
      clear hm hb hq hst hA
      obtain ⟨i, a, z, d⟩ := x
      have HR := Lib.hid (show ∀ b : Bool, b = decide ((s.es.length : Int) < 4) → b = decide (s.es.length < 4) from fun b e => by rw [e]; exact decide_eq_decide.2 (by omega))
      dsimp only at *
      generalize s.es.length = n at *
      obtain ⟨g, hg⟩ : ∃ g, p.g = g := ⟨_, rfl⟩
      rw [hg] at HSK hw ⊢
      go_enter Try.func30, Try.ntmps30
      go_wp2_with (first
        | (go_at_call 45; refine (HM.out _).mono ?_; rintro e w2 ⟨rfl, hb2⟩)
        | (go_at_call 39; refine (HSK.out _ (h1.on hb2) (hbx.on hb2)).mono ?_; unfold seekV w4 wr0; rintro e w3 ⟨rfl, hb3⟩))
      have hw4 : BW w (w3.alloc (.cells #[.int .i64 0, .int .i64 0, .int .i64 0, .int .u64 0] 34)) := BW.new ((h1.on hb2).on hb3) _
      have c0 := (hw _ hw4).cell 0
      rw [hve] at c0
      have c0' : (w3.alloc (.cells #[.int .i64 0, .int .i64 0, .int .i64 0, .int .u64 0] 34)).cell? ⟨g, 0, none⟩ = some (.slice A n cap) := c0
      clear c0
      go_quiet (fail)
      go_wp2
      go_quiet (fail)
      go_wp2
      go_ret2
      exact ⟨by show Ending.returned (.tuple #[.int .i64 (n : Int), .bool (decide ((n : Int) < 4))]) = _; rw [HR.out _ rfl], below_drewN' (below_drewN' hw4 _) _⟩
    | some q =>
      obtain ⟨k, y⟩ := q
      rw [hq] at HSK
      obtain ⟨hk, _⟩ := seekU_some hq
      have hk : k < s.es.length := hk
      obtain ⟨b, hAb, hbl, hcs⟩ := hA (by omega)
      obtain ⟨c, cp, hsv, hcl, _⟩ := hst k hk
      obtain ⟨ck0, ck1⟩ := hcs k hk
      rw [hsv] at ck1
      have hml := hok.m_le hk
      by_cases hE : (s.es.getD k ent0).ep = s.ep
      · rw [placeN_there hm hq hE]
        rw [hE] at ck0
        have HR := Lib.hid (show ∀ b : Bool, b = decide ((mE s.es k : Int) < 8) → b = decide ((s.es.getD k ent0).st.length < 8) from fun b e => by rw [e]; exact decide_eq_decide.2 (by unfold mE; omega))
        clear hm hb hq hst hA hcs hsv hE
        obtain ⟨i, a, z, d⟩ := x
        obtain ⟨yi, ya, yz, yd⟩ := y
        dsimp only at *
        generalize mE s.es k = m at *
        generalize (s.es.getD k ent0).st.length = m' at *
        generalize s.es.length = n at *
        generalize s.ep = E at *
        obtain ⟨g, hg⟩ : ∃ g, p.g = g := ⟨_, rfl⟩
        rw [hg] at HSK hw ⊢
        go_enter Try.func30, Try.ntmps30
        go_wp2_with (first
          | (go_at_call 45; refine (HM.out _).mono ?_; rintro e w2 ⟨rfl, hb2⟩)
          | (go_at_call 39; refine (HSK.out _ (h1.on hb2) (hbx.on hb2)).mono ?_; unfold seekV w4; rintro e w3 ⟨rfl, hb3⟩))
        have hw4 : BW w (w3.alloc (.cells #[.int .i64 yi, .int .i64 ya, .int .i64 yz, .int .u64 yd] 34)) := BW.new ((h1.on hb2).on hb3) _
        have c0 := (hw _ hw4).cell 0
        rw [hve, hAb] at c0
        have c1 := (hw _ hw4).cell 1
        have d0 := (hw4.cell (p := ⟨b, k * 2, none⟩) hbl).trans ck0
        have d1 := (hw4.cell (p := ⟨b, k * 2 + 1, none⟩) hbl).trans ck1
        obtain ⟨W4, hW4⟩ : ∃ W4, w3.alloc (.cells #[.int .i64 yi, .int .i64 ya, .int .i64 yz, .int .u64 yd] 34) = W4 := ⟨_, rfl⟩
        rw [hW4] at c0 c1 d0 d1 hw4 ⊢
        have c0' : W4.cell? ⟨g, 0, none⟩ = some (.slice (some ⟨b, 0, none⟩) n cap) := c0
        have c1' : W4.cell? ⟨g, 1, none⟩ = some (.int .i64 E) := c1
        clear c0 c1 hW4 hAb hve ck0 ck1
        have hkn : (0 : Int) ≤ (k : Int) ∧ (k : Int) < (n : Int) := by omega
        go_quiet (fail)
        go_wp2
        go_quiet (fail)
        go_wp2
        go_ret2
        exact ⟨by show Ending.returned (.tuple #[.int .i64 (k : Int), .bool (decide ((m : Int) < 8))]) = _; rw [HR.out _ rfl], below_drewN' (below_drewN' hw4 _) _⟩
      · rw [placeN_old hm hq hE]
        have HR := Lib.hid (show ∀ b : Bool, b = decide ((s.es.length : Int) < 4) → b = decide (s.es.length < 4) from fun b e => by rw [e]; exact decide_eq_decide.2 (by omega))
        clear hm hb hq hst hA hcs hsv
        obtain ⟨i, a, z, d⟩ := x
        obtain ⟨yi, ya, yz, yd⟩ := y
        dsimp only at *
        generalize (s.es.getD k ent0).ep = E' at *
        generalize mE s.es k = m at *
        generalize s.es.length = n at *
        generalize s.ep = E at *
        obtain ⟨g, hg⟩ : ∃ g, p.g = g := ⟨_, rfl⟩
        rw [hg] at HSK hw ⊢
        go_enter Try.func30, Try.ntmps30
        go_wp2_with (first
          | (go_at_call 45; refine (HM.out _).mono ?_; rintro e w2 ⟨rfl, hb2⟩)
          | (go_at_call 39; refine (HSK.out _ (h1.on hb2) (hbx.on hb2)).mono ?_; unfold seekV w4; rintro e w3 ⟨rfl, hb3⟩))
        have hw4 : BW w (w3.alloc (.cells #[.int .i64 yi, .int .i64 ya, .int .i64 yz, .int .u64 yd] 34)) := BW.new ((h1.on hb2).on hb3) _
        have c0 := (hw _ hw4).cell 0
        rw [hve, hAb] at c0
        have c1 := (hw _ hw4).cell 1
        have d0 := (hw4.cell (p := ⟨b, k * 2, none⟩) hbl).trans ck0
        obtain ⟨W4, hW4⟩ : ∃ W4, w3.alloc (.cells #[.int .i64 yi, .int .i64 ya, .int .i64 yz, .int .u64 yd] 34) = W4 := ⟨_, rfl⟩
        rw [hW4] at c0 c1 d0 hw4 ⊢
        have c0' : W4.cell? ⟨g, 0, none⟩ = some (.slice (some ⟨b, 0, none⟩) n cap) := c0
        have c1' : W4.cell? ⟨g, 1, none⟩ = some (.int .i64 E) := c1
        clear c0 c1 hW4 hAb hve ck0 ck1
        have hkn : (0 : Int) ≤ (k : Int) ∧ (k : Int) < (n : Int) := by omega
        go_quiet (fail)
        go_wp2
        go_quiet (fail)
        go_wp2
        go_ret2
        exact ⟨by show Ending.returned (.tuple #[.int .i64 (n : Int), .bool (decide ((n : Int) < 4))]) = _; rw [HR.out _ rfl], below_drewN' (below_drewN' hw4 _) _⟩
end Go.Proofs.Ytcddgcchpmjdiaa
