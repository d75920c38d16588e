/- The buffer: Ready; slices.Index, slices.Contains. -/
import Derived.Test.YtcddgcchpmjdiaaVg
set_option maxRecDepth 100000
set_option linter.unusedVariables false
namespace Go.Proofs.Ytcddgcchpmjdiaa
open Go.RowKit

theorem index_c (A : Option Addr) (cap : Nat) (l : List Int) (q : Int) (w : World) (hl : l.length ≤ 1000) (hr : Rd w w.heap.size A (cellsI l)) :
    Calls Try.prog 49 #[.slice A l.length cap, .int .i64 q] w fun e w' => (∃ r, e = .returned (.int .i64 r) ∧ -1 ≤ r ∧ r < 1000 ∧ (0 ≤ r ↔ q ∈ l)) ∧ BW w w' := by
  go_enter Try.func49, Try.ntmps49
  go_wp2
  go_loopw [8] (fun i wx => BW w wx ∧ ∃ k : Nat, k ≤ l.length ∧ i = .int .i64 k ∧ q ∉ l.take k) (fun i _ => l.length - (intOf i).toNat)
  case atStart => exact ⟨Below.refl _ _, 0, by omega, rfl, by simp⟩
  case round =>
    obtain ⟨hbl, k, hk, rfl, htk⟩ := hrel
    have HT := Lib.hid htk; clear htk
    by_cases hlt : k < l.length
    · obtain ⟨b, off, rfl, _, hc⟩ := (hr.below hbl).at (i := k) (by unfold cellsI; rw [List.length_map]; exact hlt)
      simp only [cellsI, List.getElem_map] at hc
      have hltI : (k : Int) < l.length := by omega
      have hkI : (k : Int) < 1000 := by omega
      by_cases he : q = l[k]
      · have ht : (q == l[k]) = true := by simp [he]
        have HE := Lib.hid he; clear he
        go_wp2
        go_ret
        exact ⟨⟨k, rfl, by omega, by omega, ⟨fun _ => by rw [HE.out]; exact List.getElem_mem _, fun _ => by omega⟩⟩, hbl⟩
      · have ht : (q == l[k]) = false := by simp [he]
        have HE := Lib.hid he; clear he
        go_wp2
        go_roundw
        case rel =>
          refine ⟨hbl, k + 1, by omega, by go_num, ?_⟩
          rw [List.take_succ_eq_append_getElem hlt]
          intro hm
          rcases List.mem_append.1 hm with h1 | h1
          · exact HT.out h1
          · exact HE.out (by simpa using h1)
        case measure => simp [intOf]; omega
    · go_wp2
      go_ret
      refine ⟨⟨-1, rfl, by omega, by omega, ⟨fun h => by omega, fun h => ?_⟩⟩, hbl⟩
      have ht := HT.out
      rw [List.take_of_length_le (by omega)] at ht
      exact absurd h ht
theorem contains_c (A : Option Addr) (cap : Nat) (l : List Int) (q : Int) (w : World) (hl : l.length ≤ 1000) (hr : Rd w w.heap.size A (cellsI l)) :
    Calls Try.prog 36 #[.slice A l.length cap, .int .i64 q] w fun e w' => e = .returned (.bool (decide (q ∈ l))) ∧ BW w w' := by
  have HI := Lib.hid (index_c A cap l q w hl hr)
  go_enter Try.func36, Try.ntmps36
  go_wp2_with (go_at_call 49; refine HI.out.mono ?_; rintro e w3 ⟨⟨r, rfl, hr1, hr2, hr3⟩, hb⟩; have HR := Lib.hid hr3; clear hr3)
  go_ret
  exact ⟨ret_bool (decide_eq_decide.2 HR.out), hb⟩
def rdyP (s : Bst) (k : Nat) : Bool := decide ((s.es.getD k ent0).ep = (s.es.getD 0 ent0).ep)
def rdyK (s : Bst) (k : Nat) : List Nat := (List.range k).filter (rdyP s)
def rdyI (s : Bst) (k : Nat) : List Int := List.map (fun i : Nat => (i : Int)) (rdyK s k)
theorem rdyI_yes {s : Bst} {k : Nat} (h : rdyP s k = true) : rdyI s (k + 1) = rdyI s k ++ [(k : Int)] := by
  unfold rdyI rdyK
  rw [List.range_succ, List.filter_append, List.map_append]
  simp [h]
theorem rdyI_no {s : Bst} {k : Nat} (h : rdyP s k = false) : rdyI s (k + 1) = rdyI s k := by
  unfold rdyI rdyK
  rw [List.range_succ, List.filter_append, List.map_append]
  simp [h]
theorem rdyI_len (s : Bst) (k : Nat) : (rdyI s k).length ≤ k := by
  unfold rdyI rdyK
  rw [List.length_map]
  exact Nat.le_trans (List.length_filter_le _ _) (by simp)
theorem readyN_eq (s : Bst) : readyN s = rdyK s s.es.length := rfl
theorem mayGo_iff (s : Bst) (q : Int) : q ∈ rdyI s s.es.length ↔ mayGo s q = true := by
  unfold rdyI rdyK mayGo rdyP
  simp only [List.mem_map, List.mem_filter, List.mem_range, Bool.and_eq_true, decide_eq_true_eq]
  constructor
  · rintro ⟨k, ⟨h1, h2⟩, rfl⟩
    exact ⟨by omega, by simpa using h2⟩
  · rintro ⟨h1, h2⟩
    exact ⟨q.toNat, ⟨by omega, h2⟩, by omega⟩
theorem Try.info3b : (Try.prog.info? 3).map (fun i => (i.zero, i.size, i.bytes)) = some (some (.int .i64 0), 1, 8) := by kernel_rfl
set_option maxHeartbeats 2000000 in
theorem ready_c {s : Bst} {p : Bpl} {w : World} (h : BufAt s p w) (hok : BsOk s) :
    Calls Try.prog 22 #[.pointer (some ⟨p.g, 0, none⟩)] w (RetOwn w 3 1 (rdyI s s.es.length).length (cellsI (rdyI s s.es.length))) := by
  obtain ⟨i0, hi, hz0, hz1, hz2⟩ := info_parts Try.info3b
  obtain ⟨A, cap, hve, hA⟩ := h.reads
  have c0 := h.head.cell 0
  rw [hve] at c0
  have HA := Lib.hid (all_g (g := p.g) (A := A) (n := s.es.length) (cap := cap) (w := w) c0)
  have hl := hok.len
  have hst := Lib.hid (h.stores hok)
  have HAA := Lib.hid hA
  clear c0 hA hve hok
  obtain ⟨n, hn⟩ : ∃ n, s.es.length = n := ⟨_, rfl⟩
  rw [hn] at HA hl hst HAA ⊢
  go_enter Try.func22, Try.ntmps22
  go_wp2_with (go_at_call 35; refine HA.out.mono ?_; rintro e w3 ⟨rfl, rfl⟩)
  go_loopw [3, 11] (fun v i wx => BW w wx ∧ ∃ k : Nat, k ≤ n ∧ i = .int .i64 k ∧ Hid (wx.ownsRow w.heap.size 3 1 v (rdyI s k).length (cellsI (rdyI s k)))) (fun _ i _ => n - (intOf i).toNat)
  case atStart => exact ⟨Below.refl _ _, 0, by omega, rfl, Lib.hid (World.ownsRow_nil _ _ _ _)⟩
  case round =>
    obtain ⟨hbl, k, hk, rfl, hown⟩ := hrel
    by_cases hlt : k < n
    · obtain ⟨b, hAb, hbb, hcs⟩ := HAA.out (by omega)
      subst hAb
      obtain ⟨c, cp, hsv, hcl, _⟩ := hst.out k hlt
      obtain ⟨e0, e1⟩ := hcs k hlt
      have d0 := (hcs 0 (by omega)).1
      rw [hsv] at e1
      rw [Nat.zero_mul] at d0
      have e0' := (hbl.cell (p := ⟨b, k * 2, none⟩) hbb).trans e0
      have e1' := (hbl.cell (p := ⟨b, k * 2 + 1, none⟩) hbb).trans e1
      have d0' := (hbl.cell (p := ⟨b, 0, none⟩) hbb).trans d0
      have hkI : (k : Int) < (n : Int) ∧ (0 : Int) < (n : Int) := by omega
      clear e0 e1 d0 hcs hsv
      have HP := Lib.hid (show rdyP s k = decide ((s.es.getD k ent0).ep = (s.es.getD 0 ent0).ep) from rfl)
      generalize mE s.es k = m at *
      have f0 := (Blk.new #[.int .i64 (s.es.getD k ent0).ep, .slice (some ⟨c, 0, none⟩) m cp] 60 wr).cell 0
      have f1 := cell_old d0' (.cells #[.int .i64 (s.es.getD k ent0).ep, .slice (some ⟨c, 0, none⟩) m cp] 60)
      have hb2 := hbl.alloc hbl.size (.cells #[.int .i64 (s.es.getD k ent0).ep, .slice (some ⟨c, 0, none⟩) m cp] 60)
      have ho2 := Lib.hid (hown.out.alloc (.cells #[.int .i64 (s.es.getD k ent0).ep, .slice (some ⟨c, 0, none⟩) m cp] 60))
      by_cases hE : (s.es.getD k ent0).ep = (s.es.getD 0 ent0).ep
      · have HY := Lib.hid (rdyI_yes (s := s) (k := k) (by rw [HP.out]; exact decide_eq_true hE))
        rw [hE] at e0' f0 f1 hb2 ho2
        clear hE HP
        generalize (s.es.getD 0 ent0).ep = E at *
        go_wp2
        obtain ⟨W4, hW4⟩ : ∃ W4, wr.alloc (.cells #[.int .i64 E, .slice (some ⟨c, 0, none⟩) m cp] 60) = W4 := ⟨_, rfl⟩
        rw [hW4] at f0 f1 hb2 ho2 ⊢
        have f0' : W4.cell? ⟨wr.heap.size, 0, none⟩ = some (.int .i64 E) := f0
        clear f0 hW4
        have hlen := rdyI_len s k
        go_quiet (fail)
        have hb3 := below_drewN' hb2 nq
        have ho3 := Lib.hid (show (W4.drewN nq).ownsRow w.heap.size 3 1 u3 (rdyI s k).length (cellsI (rdyI s k)) from ho2.out)
        obtain ⟨W5, hW5⟩ : ∃ W5, W4.drewN nq = W5 := ⟨_, rfl⟩
        rw [hW5] at hb3 ho3 ⊢
        clear hW5
        go_wp2_with (at_builtin; refine wpList_append_own _ rfl _ _ 46 rfl w.heap.size 3 i0 (.int .i64 0) 1 8 Try.underlying46 hi hz0 hz1 hz2 rfl (by decide) _ _ _ rfl (ho3.out.alloc _) ⟨W5.heap.size, 0, none⟩ 1 1 [.int .i64 (k : Int)] rfl rfl ?_ ?_ ?_ ?_ ?_ ?_)
        · exact cell_new _ _ _
        · intro u hu; rw [List.mem_singleton] at hu; subst hu; rfl
        · unfold maxLen; omega
        · omega
        · have := hb3.size; simp; omega
        intro v' w1 hown1 hgrow _
        have hbl1 : Below w.heap.size w w1 := (hb3.alloc hb3.size _).grown hgrow (by have := hb3.size; simp; omega) (fun g hg => (ho3.out.lt g hg).1)
        have hown2 : w1.ownsRow w.heap.size 3 1 v' (rdyI s (k + 1)).length (cellsI (rdyI s (k + 1))) := by
          rw [HY.out, List.length_append]; unfold cellsI; rw [List.map_append]; exact hown1
        clear hown1 hgrow
        have HO2 := Lib.hid hown2
        clear hown2
        go_wp2
        go_roundw
        case rel => exact ⟨hbl1, k + 1, by omega, by go_num, HO2⟩
        case measure => simp [intOf]; omega
      · have HY := Lib.hid (rdyI_no (s := s) (k := k) (by rw [HP.out]; exact decide_eq_false hE))
        clear HP
        generalize (s.es.getD 0 ent0).ep = E at *
        generalize (s.es.getD k ent0).ep = E' at *
        go_wp2
        obtain ⟨W4, hW4⟩ : ∃ W4, wr.alloc (.cells #[.int .i64 E', .slice (some ⟨c, 0, none⟩) m cp] 60) = W4 := ⟨_, rfl⟩
        rw [hW4] at f0 f1 hb2 ho2 ⊢
        have f0' : W4.cell? ⟨wr.heap.size, 0, none⟩ = some (.int .i64 E') := f0
        clear f0 hW4
        go_quiet (fail)
        have hb3 := below_drewN' hb2 nq
        have ho3 := Lib.hid (show (W4.drewN nq).ownsRow w.heap.size 3 1 u3 (rdyI s (k + 1)).length (cellsI (rdyI s (k + 1))) from by rw [HY.out]; exact ho2.out)
        obtain ⟨W5, hW5⟩ : ∃ W5, W4.drewN nq = W5 := ⟨_, rfl⟩
        rw [hW5] at hb3 ho3 ⊢
        clear hW5
        go_wp2
        go_roundw
        case rel => exact ⟨hb3, k + 1, by omega, by go_num, ho3⟩
        case measure => simp [intOf]; omega
    · obtain rfl : k = n := by omega
      go_wp2
      go_ret
      exact ⟨_, rfl, hown.out, hbl⟩
theorem ready_nil (w : World) : Calls Try.prog 22 #[.pointer none] w (RetOwn w 3 1 0 []) := by
  have HA := Lib.hid (all_nil w)
  go_enter Try.func22, Try.ntmps22
  go_wp2_with (go_at_call 35; refine HA.out.mono ?_; rintro e w3 ⟨rfl, rfl⟩)
  go_loopw [3, 11] (fun v i wx => v = .slice none 0 0 ∧ i = .int .i64 0 ∧ w = wx) (fun _ i _ => 0)
  case atStart => exact ⟨rfl, rfl, rfl⟩
  case round =>
    obtain ⟨rfl, rfl, rfl⟩ := hrel
    go_wp2
    go_ret
    exact ⟨_, rfl, World.ownsRow_nil _ _ _ _, Below.refl _ _⟩
end Go.Proofs.Ytcddgcchpmjdiaa
