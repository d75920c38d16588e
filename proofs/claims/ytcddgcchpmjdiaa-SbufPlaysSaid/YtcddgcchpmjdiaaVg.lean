/- The buffer: Find, Elder, Barrier. -/
import Derived.Test.YtcddgcchpmjdiaaVf
set_option maxRecDepth 100000
set_option linter.unusedVariables false
namespace Go.Proofs.Ytcddgcchpmjdiaa
open Go.RowKit

theorem seekN_ok {s : Bst} (hok : BsOk s) {f : Wr → Bool} {q : Nat × Wr} (h : seekN f s.es = some q) : q.1 < s.es.length ∧ StOk q.2 ∧ f q.2 = true := by
  obtain ⟨h1, h2, h3, _⟩ := seekU_some h
  refine ⟨h1, ?_, h3⟩
  rw [getD_ent h1] at h2
  exact hok.st _ (List.getElem_mem _) _ h2
def findV (r : Int × Int × Bool) : Value := .tuple #[.int .u8 r.1, .int .i64 r.2.1, .bool r.2.2]
set_option maxHeartbeats 2000000 in
theorem find_c {s : Bst} {p : Bpl} {w : World} (h : BufAt s p w) (hok : BsOk s) (q : Int) :
    Calls Try.prog 17 #[.pointer (some ⟨p.g, 0, none⟩), .int .i64 q] w fun e w' => e = .returned (findV (findB s q)) ∧ BW w w' := by
  have h1 : BW w (w.alloc (.cells #[.int .i64 q] 3)) := BW.new (Below.refl _ _) _
  have b1 : Blk #[.int .i64 q] 3 w.heap.size (w.alloc (.cells #[.int .i64 q] 3)) := Blk.new _ _ _
  have HP := Lib.hid (seekF_c (h.on h1) hok (b1.cell 0))
  unfold findB
  cases hq : seekN (hasAt q) s.es with
  | none =>
    rw [hq] at HP
    clear hq
    go_enter Try.func17, Try.ntmps17
    go_wp2_with (go_at_call 39; refine HP.out.mono ?_; unfold seekV w4 wr0; rintro e w3 ⟨rfl, hb3⟩)
    refine bodyPost_ret (results_tmp3 rfl _ _ _) rfl ?_
    exact ⟨rfl, BW.new (h1.on hb3) _⟩
  | some y =>
    obtain ⟨k, y⟩ := y
    rw [hq] at HP
    obtain ⟨_, hst, hat⟩ := seekN_ok hok hq
    clear hq
    obtain ⟨hd0, hd1⟩ := hst.data
    obtain ⟨_, hz, ha0, _, ha1⟩ := mayW_out hst.may
    unfold hasAt at hat
    simp only [Bool.and_eq_true, decide_eq_true_eq] at hat
    obtain ⟨yi, ya, yz, yd⟩ := y
    dsimp only at *
    obtain ⟨hat1, hat2⟩ := hat
    have hD1 : q - ya < 8 := by omega
    clear hz hst hat2
    go_enter Try.func17, Try.ntmps17
    go_wp2_with (go_at_call 39; refine HP.out.mono ?_; unfold seekV w4; rintro e w3 ⟨rfl, hb3⟩)
    have c1 := ((b1.on hb3).alloc (.cells #[.int .i64 yi, .int .i64 ya, .int .i64 yz, .int .u64 yd] 34)).cell 0
    have bw := BW.new (h1.on hb3) (.cells #[.int .i64 yi, .int .i64 ya, .int .i64 yz, .int .u64 yd] 34)
    have b4 := Blk.new #[.int .i64 yi, .int .i64 ya, .int .i64 yz, .int .u64 yd] 34 w3
    obtain ⟨W4, hW4⟩ : ∃ W4, w3.alloc (.cells #[.int .i64 yi, .int .i64 ya, .int .i64 yz, .int .u64 yd] 34) = W4 := ⟨_, rfl⟩
    rw [hW4] at c1 bw b4 ⊢
    have c1' : W4.cell? ⟨w.heap.size, 0, none⟩ = some (.int .i64 q) := c1
    obtain ⟨B4, hB4⟩ : ∃ B4, w3.heap.size = B4 := ⟨_, rfl⟩
    rw [hB4] at b4 ⊢
    have e0 : W4.cell? ⟨B4, 0, none⟩ = some (.int .i64 yi) := b4.cell 0
    have e1 : W4.cell? ⟨B4, 1, none⟩ = some (.int .i64 ya) := b4.cell 1
    have e3 : W4.cell? ⟨B4, 3, none⟩ = some (.int .u64 yd) := b4.cell 3
    clear c1 hW4 hB4 b4
    obtain ⟨D, hD⟩ : ∃ D, q - ya = D := ⟨_, rfl⟩
    have hD0 : 0 ≤ D := by omega
    have hD8 : D < 8 := by omega
    have hw1 : IntKind.i64.wrap (q - ya) = D := by rw [IntKind.wrap_i64]; omega
    have hw2 : IntKind.i64.wrap (8 * D) = 8 * D := by rw [IntKind.wrap_i64]; omega
    go_quiet (fail)
    go_wp2
    refine bodyPost_ret (results_tmp3 rfl _ _ _) rfl ?_
    refine ⟨?_, below_drewN' bw _⟩
    show Ending.returned (.tuple #[.int .u8 (yd / 2 ^ (8 * D).toNat % 256), .int .i64 yi, .bool true]) = _
    rw [show (8 * D).toNat = 8 * D.toNat by omega, byte_shift, ← hD]
    rfl
theorem find_nil (q : Int) (w : World) : Calls Try.prog 17 #[.pointer none, .int .i64 q] w fun e w' => e = .returned (findV (0, 0, false)) ∧ BW w w' := by
  have h1 : BW w (w.alloc (.cells #[.int .i64 q] 3)) := BW.new (Below.refl _ _) _
  have HP := Lib.hid (fun d0 X => seekF_nil d0 X)
  go_enter Try.func17, Try.ntmps17
  go_wp2_with (go_at_call 39; refine (HP.out _ _).mono ?_; unfold seekV w4 wr0; rintro e w3 ⟨rfl, hb3⟩)
  refine bodyPost_ret (results_tmp3 rfl _ _ _) rfl ?_
  exact ⟨rfl, BW.new (h1.on hb3) _⟩

/-! ### Elder, Barrier -/
theorem elder_c {s : Bst} {p : Bpl} {w : World} (h : BufAt s p w) (hok : BsOk s) : Calls Try.prog 25 #[.pointer (some ⟨p.g, 0, none⟩)] w fun e w' => e = .returned (.bool (eldB s)) ∧ BW w w' := by
  obtain ⟨A, cap, hve, hA⟩ := h.reads
  have c0 := h.head.cell 0
  have c1 := h.head.cell 1
  rw [hve] at c0
  have HA := Lib.hid (all_g (g := p.g) (A := A) (n := s.es.length) (cap := cap) (w := w) c0)
  have hl := hok.len
  unfold eldB
  by_cases h0 : 0 < s.es.length
  · obtain ⟨b, hAb, hbl, hcs⟩ := hA h0
    have d0 := (hcs 0 h0).1
    rw [Nat.zero_mul] at d0
    rw [hAb] at HA
    have HD := Lib.hid (decide_eq_true h0)
    have c1' : w.cell? ⟨p.g, 1, none⟩ = some (.int .i64 s.ep) := c1
    clear c0 c1 hve hAb hA hcs h hok
    have hg0 : decide ((0 : Int) < (s.es.length : Int)) = true := decide_eq_true (by omega)
    have hnI : (0 : Int) < (s.es.length : Int) := by omega
    generalize (s.es.getD 0 ent0).ep = E0 at *
    generalize s.es.length = n at *
    go_enter Try.func25, Try.ntmps25
    go_wp2_with (go_at_call 35; refine HA.out.mono ?_; rintro e w3 ⟨rfl, rfl⟩)
    go_quiet (fail)
    go_wp2
    go_ret
    exact ⟨ret_bool (by rw [HD.out, Bool.true_and]), below_drewN' (Below.refl _ _) _⟩
  · have HD := Lib.hid (decide_eq_false h0)
    have hg0 : decide ((0 : Int) < (s.es.length : Int)) = false := decide_eq_false (by omega)
    have hn0 : s.es.length = 0 := by omega
    rw [hn0] at HA hg0
    clear c0 c1 hA
    go_enter Try.func25, Try.ntmps25
    go_wp2_with (go_at_call 35; refine HA.out.mono ?_; rintro e w3 ⟨rfl, rfl⟩)
    go_quiet (fail)
    go_wp2
    go_ret
    exact ⟨ret_bool (by rw [HD.out, Bool.false_and]), below_drewN' (Below.refl _ _) _⟩
theorem elder_nil (w : World) : Calls Try.prog 25 #[.pointer none] w fun e w' => e = .returned (.bool false) ∧ BW w w' := by
  have HA := Lib.hid (all_nil w)
  go_enter Try.func25, Try.ntmps25
  go_wp2_with (go_at_call 35; refine HA.out.mono ?_; rintro e w3 ⟨rfl, rfl⟩)
  go_quiet (fail)
  go_wp2
  go_ret
  exact ⟨rfl, below_drewN' (Below.refl _ _) _⟩
theorem barrier_nil (w : World) : Calls Try.prog 12 #[.pointer none] w fun e w' => e = .returned (.tuple #[]) ∧ BW w w' := by
  have HA := Lib.hid (all_nil w)
  go_enter Try.func12, Try.ntmps12
  go_wp2_with (go_at_call 35; refine HA.out.mono ?_; rintro e w3 ⟨rfl, rfl⟩)
  go_quiet (fail)
  go_wp2
  go_end0
  exact ⟨rfl, below_drewN' (Below.refl _ _) _⟩
theorem BufAt.turn {s : Bst} {p : Bpl} {w : World} (h : BufAt s p w) (E : Int) : BufAt ⟨s.es, E⟩ p (w.setCell ⟨p.g, 1, none⟩ (.int .i64 E)) := by
  have hd := h.apart
  rw [Bpl.foot, List.nodup_cons] at hd
  have hf : Fr [p.g] w (w.setCell ⟨p.g, 1, none⟩ (.int .i64 E)) := (Fr.refl _ w).setCell (.inl (by simp)) _
  refine ⟨h.es, h.head.set 1 _, hf.row h.row (fun k hk => ?_), fun x hx => hf.row (h.each x hx) (fun k hk => ?_), h.apart⟩
  · intro hm
    obtain rfl : k = p.g := by simpa using hm
    exact hd.1 (by simp [hk])
  · intro hm
    obtain rfl : k = p.g := by simpa using hm
    exact hd.1 (List.mem_append.2 (.inr (List.mem_flatMap.2 ⟨x, hx, by simp [hk]⟩)))
theorem barrier_c {s : Bst} {p : Bpl} {w : World} (h : BufAt s p w) (hok : BsOk s) (hE : s.ep ≤ 1000000) : Calls Try.prog 12 #[.pointer (some ⟨p.g, 0, none⟩)] w fun e w' => e = .returned (.tuple #[]) ∧ BufAt (barB s) p w' ∧ Fr [p.g] w w' := by
  obtain ⟨A, cap, hve, hA⟩ := h.reads
  have c0 := h.head.cell 0
  have c1 := h.head.cell 1
  rw [hve] at c0
  have HA := Lib.hid (all_g (g := p.g) (A := A) (n := s.es.length) (cap := cap) (w := w) c0)
  have hl := hok.len
  have he0 := hok.ep0
  have HT := Lib.hid (fun n => (h.on (below_drewN' (Below.refl w.heap.size w) n)).turn (s.ep + 1))
  have HN := Lib.hid (fun n => h.on (below_drewN' (Below.refl w.heap.size w) n))
  have ff := h.head.free 1
  unfold barB
  by_cases h0 : 0 < s.es.length
  · obtain ⟨b, hAb, hbl, hcs⟩ := hA h0
    have d0 := (hcs (s.es.length - 1) (by omega)).1
    rw [hAb] at HA
    have c1' : w.cell? ⟨p.g, 1, none⟩ = some (.int .i64 s.ep) := c1
    have hg0 : decide ((0 : Int) < (s.es.length : Int)) = true := decide_eq_true (by omega)
    have hnI : (0 : Int) < (s.es.length : Int) := by omega
    by_cases hEE : (s.es.getD (s.es.length - 1) ent0).ep = s.ep
    · rw [if_pos ⟨h0, hEE⟩]
      rw [hEE] at d0
      clear c0 c1 hve hAb hA hcs h hok hEE
      obtain ⟨j, hj⟩ : ∃ j, s.es.length - 1 = j := ⟨_, rfl⟩
      rw [hj] at d0
      have hjI : ((s.es.length : Int) - 1) = (j : Int) := by omega
      have hjn : (j : Int) < (s.es.length : Int) := by omega
      obtain ⟨g, hg⟩ : ∃ g, p.g = g := ⟨_, rfl⟩
      rw [hg] at HA c1' HT ff ⊢
      generalize s.ep = E at *
      generalize s.es.length = n at *
      go_enter Try.func12, Try.ntmps12
      go_wp2_with (go_at_call 35; refine HA.out.mono ?_; rintro e w3 ⟨rfl, rfl⟩)
      go_quiet (fail)
      go_wp2
      go_end0
      exact ⟨rfl, HT.out _, ((Fr.of [g] (below_drewN' (Below.refl _ _) _)).setCell (.inl (by simp)) _)⟩
    · rw [if_neg (fun k => hEE k.2)]
      clear c0 c1 hve hAb hA hcs h hok
      obtain ⟨j, hj⟩ : ∃ j, s.es.length - 1 = j := ⟨_, rfl⟩
      rw [hj] at d0 hEE
      have hjI : ((s.es.length : Int) - 1) = (j : Int) := by omega
      have hjn : (j : Int) < (s.es.length : Int) := by omega
      obtain ⟨g, hg⟩ : ∃ g, p.g = g := ⟨_, rfl⟩
      rw [hg] at HA c1' HT ff ⊢
      generalize (s.es.getD j ent0).ep = E' at *
      generalize s.ep = E at *
      generalize s.es.length = n at *
      go_enter Try.func12, Try.ntmps12
      go_wp2_with (go_at_call 35; refine HA.out.mono ?_; rintro e w3 ⟨rfl, rfl⟩)
      go_quiet (fail)
      go_wp2
      go_end0
      exact ⟨rfl, HN.out _, Fr.of [g] (below_drewN' (Below.refl _ _) _)⟩
  · rw [if_neg (fun k => h0 k.1)]
    have hg0 : decide ((0 : Int) < (s.es.length : Int)) = false := decide_eq_false (by omega)
    have hn0 : s.es.length = 0 := by omega
    rw [hn0] at HA hg0
    clear c0 c1 hA
    go_enter Try.func12, Try.ntmps12
    go_wp2_with (go_at_call 35; refine HA.out.mono ?_; rintro e w3 ⟨rfl, rfl⟩)
    go_quiet (fail)
    go_wp2
    go_end0
    exact ⟨rfl, HN.out _, Fr.of _ (below_drewN' (Below.refl _ _) _)⟩
end Go.Proofs.Ytcddgcchpmjdiaa
