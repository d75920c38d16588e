/- The buffer: Entries. -/
import Derived.Test.YtcddgcchpmjdiaaVq
set_option maxRecDepth 100000
set_option linter.unusedVariables false
namespace Go.Proofs.Ytcddgcchpmjdiaa
open Go.RowKit

theorem rd_own {w : World} {base n c z : Nat} {e : TypeId} {A : Option Addr} {xs : List Value} (h : w.ownsRow base e z (.slice A n c) n xs) : Rd w w.heap.size A xs := by
  rcases h.2 with ⟨h1, h2⟩ | ⟨g, cap, cur, hv, _, hg, _⟩
  · left
    have := h.1
    rw [h2, Nat.zero_mul] at this
    exact List.eq_nil_of_length_eq_zero this
  · cases hv
    refine .inr ⟨g, 0, rfl, (Array.getElem?_eq_some_iff.1 hg).1, fun i v hv => ?_⟩
    have := h.cells (g := g) rfl i v hv
    rw [show (⟨g, 0, none⟩ : Addr).add i = ⟨g, 0 + i, none⟩ by unfold Addr.add; split <;> simp_all] at this
    exact this
/-- Rows of unlike things lie in unlike blocks. -/
theorem rows_apart {w : World} {b1 b2 z1 z2 n1 n2 : Nat} {e1 e2 : TypeId} {v1 v2 : Value} {xs1 xs2 : List Value} (h1 : w.ownsRow b1 e1 z1 v1 n1 xs1) (h2 : w.ownsRow b2 e2 z2 v2 n2 xs2) (he : e1 ≠ e2) : v1.ownBlock = none ∨ v1.ownBlock ≠ v2.ownBlock := by
  rcases h1.2 with ⟨rfl, _⟩ | ⟨g1, c1, cur1, rfl, _, hg1, _⟩
  · exact .inl rfl
  · right
    rcases h2.2 with ⟨rfl, _⟩ | ⟨g2, c2, cur2, rfl, _, hg2, _⟩
    · intro e; cases e
    · intro e
      have : g1 = g2 := by simpa [Value.ownBlock] using e
      subst this
      rw [hg1] at hg2
      cases hg2
      exact he rfl
/-- Rows of a row: what Entries tells. -/
def Rows2 (w : World) (ls : List (List Wr)) (v : Value) (w' : World) : Prop :=
  ∃ vs, w'.ownsRow w.heap.size 39 1 v ls.length vs ∧ ∀ i (hi : i < ls.length), ∃ u, vs[i]? = some u ∧ w'.ownsRow w.heap.size 34 4 u ls[i].length (cellsW ls[i])
def RetRows (w : World) (ls : List (List Wr)) (e : Ending) (w' : World) : Prop := ∃ v, e = .returned v ∧ Rows2 w ls v w' ∧ BW w w'
theorem Rows2.on {w w1 w2 : World} {ls : List (List Wr)} {v : Value} (h : Rows2 w ls v w1) (k : BW w1 w2) : Rows2 w ls v w2 := by
  obtain ⟨vs, h1, h2⟩ := h
  have hf : Fr [] w1 w2 := Fr.of [] k
  exact ⟨vs, hf.row h1 (fun _ _ => by simp), fun i hi => by
    obtain ⟨u, h3, h4⟩ := h2 i hi
    exact ⟨u, h3, hf.row h4 (fun _ _ => by simp)⟩⟩
theorem Try.info39 : (Try.prog.info? 39).map (fun i => (i.zero, i.size, i.bytes)) = some (some (.slice none 0 0), 1, 24) := by kernel_rfl
/-- One more. -/
theorem Rows2.snoc {w w1 w2 : World} {ls : List (List Wr)} {l : List Wr} {v v' u : Value} {vs : List Value} (h1 : w1.ownsRow w.heap.size 39 1 v ls.length vs) (h2 : ∀ i (hi : i < ls.length), ∃ u, vs[i]? = some u ∧ w1.ownsRow w.heap.size 34 4 u ls[i].length (cellsW ls[i]))
    (hu : w1.ownsRow w.heap.size 34 4 u l.length (cellsW l)) (hg : w1.grownBy w2 v.ownBlock) (ho : w2.ownsRow w.heap.size 39 1 v' (ls.length + 1) (vs ++ [u])) : Rows2 w (ls ++ [l]) v' w2 := by
  have hvl : vs.length = ls.length := by have := h1.1; omega
  refine ⟨vs ++ [u], by rw [List.length_append]; exact ho, fun i hi => ?_⟩
  rw [List.length_append] at hi
  by_cases hlt : i < ls.length
  · obtain ⟨u', h3, h4⟩ := h2 i hlt
    refine ⟨u', by rw [List.getElem?_append_left (by omega)]; exact h3, ?_⟩
    rw [List.getElem_append_left hlt]
    exact h4.kept hg (rows_apart h4 h1 (by decide))
  · have e : i = ls.length := by simp at hi; omega
    subst e
    refine ⟨u, by rw [List.getElem?_append_right (by omega), hvl]; simp, ?_⟩
    rw [List.getElem_append_right (Nat.le_refl _)]
    simp only [Nat.sub_self, List.getElem_cons_zero]
    exact hu.kept hg (rows_apart hu h1 (by decide))
def stsK (s : Bst) (k : Nat) : List (List Wr) := (s.es.take k).map Ent.st
theorem stsK_len {s : Bst} {k : Nat} (h : k ≤ s.es.length) : (stsK s k).length = k := by unfold stsK; rw [List.length_map, List.length_take]; omega
theorem stsK_succ {s : Bst} {k : Nat} (h : k < s.es.length) : stsK s (k + 1) = stsK s k ++ [(s.es.getD k ent0).st] := by
  unfold stsK
  rw [List.take_succ_eq_append_getElem h, List.map_append, getD_ent h]
  rfl
theorem stsK_all (s : Bst) : stsK s s.es.length = s.es.map Ent.st := by unfold stsK; rw [List.take_length]
set_option maxHeartbeats 4000000 in
theorem entries_c {s : Bst} {p : Bpl} {w : World} (h : BufAt s p w) (hok : BsOk s) :
    Calls Try.prog 23 #[.pointer (some ⟨p.g, 0, none⟩)] w (RetRows w (s.es.map Ent.st)) := by
  obtain ⟨i0, hi, hz0, hz1, hz2⟩ := info_parts Try.info39
  obtain ⟨A, cap, hve, hA⟩ := h.reads
  have c0 := h.head.cell 0
  rw [hve] at c0
  have HA := Lib.hid (all_g (g := p.g) (A := A) (n := s.es.length) (cap := cap) (w := w) c0)
  have hl := hok.len
  have hst := Lib.hid (h.stores hok)
  have HAA := Lib.hid hA
  have HROW := Lib.hid (fun k (hk : k < s.es.length) X (hX : BW w X) => (h.on hX).row_at hk)
  have HM := Lib.hid (fun k (hk : k < s.es.length) => hok.m_le hk)
  rw [← stsK_all]
  have HSU := Lib.hid (fun k (hk : k < s.es.length) => stsK_succ hk)
  have HLE := Lib.hid (fun k (hk : k ≤ s.es.length) => stsK_len hk)
  have H0 : stsK s 0 = [] := by simp [stsK]
  clear c0 hA hve hok h
  obtain ⟨n, hn⟩ : ∃ n, s.es.length = n := ⟨_, rfl⟩
  rw [hn] at HA hl hst HAA HROW HM HSU HLE ⊢
  go_enter Try.func23, Try.ntmps23
  go_wp2_with (go_at_call 35; refine HA.out.mono ?_; rintro e w3 ⟨rfl, rfl⟩)
  go_loopw [3, 9] (fun v i wx => BW w wx ∧ ∃ k : Nat, k ≤ n ∧ i = .int .i64 k ∧ Hid (Rows2 w (stsK s k) v wx)) (fun _ i _ => n - (intOf i).toNat)
  case atStart => exact ⟨Below.refl _ _, 0, by omega, rfl, Lib.hid ⟨[], by rw [H0]; exact World.ownsRow_nil _ _ _ _, fun i hi => by rw [H0] at hi; cases hi⟩⟩
  case round =>
    obtain ⟨hbl, k, hk, rfl, hown⟩ := hrel
    by_cases hlt : k < n
    · obtain ⟨b, hAb, hbb, hcs⟩ := HAA.out (by omega)
      subst hAb
      obtain ⟨c, cp, hsv, hcl, _⟩ := hst.out k hlt
      obtain ⟨e0, e1⟩ := hcs k hlt
      rw [hsv] at e1
      have e0' := (hbl.cell (p := ⟨b, k * 2, none⟩) hbb).trans e0
      have e1' := (hbl.cell (p := ⟨b, k * 2 + 1, none⟩) hbb).trans e1
      have hkI : (k : Int) < (n : Int) := by omega
      have hm8 := HM.out k hlt
      have hsu := Lib.hid (HSU.out k hlt)
      have hle := Lib.hid (HLE.out k (by omega))
      have hr4 := Lib.hid (show ∀ X, BW w X → Calls Try.prog 44 #[.slice (some ⟨c, 0, none⟩) (mE s.es k) cp] X (RetOwn X 34 4 (s.es.getD k ent0).st.length (cellsW (s.es.getD k ent0).st)) from fun X hX => cloneW_c _ _ _ _ (by unfold mE at hm8; omega) (by
        have := HROW.out k hlt X hX
        rw [hsv] at this
        exact rd_own this))
      clear e0 e1 hcs hsv
      generalize (s.es.getD k ent0).st = st at *
      generalize (s.es.getD k ent0).ep = E at *
      generalize mE s.es k = m at *
      have hb4 := BW.new hbl (.cells #[.int .i64 E, .slice (some ⟨c, 0, none⟩) m cp] 60)
      have f0 := (Blk.new #[.int .i64 E, .slice (some ⟨c, 0, none⟩) m cp] 60 wr).cell 1
      have ho4 := Lib.hid (hown.out.on (BW.new (Below.refl wr.heap.size wr) (.cells #[.int .i64 E, .slice (some ⟨c, 0, none⟩) m cp] 60)))
      go_wp2_with (first
        | (go_at_call 44; refine (hr4.out _ hb4).mono ?_; rintro e w5 ⟨v5, rfl, ho5, hb5⟩; obtain ⟨A5, c5, rfl⟩ := own_shape ho5; have HO5 := Lib.hid ho5; clear ho5)
        | (at_builtin; obtain ⟨vs, hv1, hv2⟩ := (ho4.out.on hb5).on (BW.new (Below.refl w5.heap.size w5) (.cells #[.slice A5 st.length c5] 39)); have hu5 := (Fr.of [] (BW.new (Below.refl w5.heap.size w5) (.cells #[.slice A5 st.length c5] 39))).row HO5.out (fun _ _ => by simp); refine wpList_append_own _ rfl _ _ 48 rfl w.heap.size 39 i0 (.slice none 0 0) 1 24 Try.underlying48 hi hz0 hz1 hz2 rfl (by decide) _ _ _ rfl hv1 ⟨w5.heap.size, 0, none⟩ 1 1 [.slice A5 st.length c5] rfl rfl ?_ ?_ ?_ ?_ ?_ ?_))
      · exact cell_new _ _ _
      · intro u hu; rw [List.mem_singleton] at hu; subst hu; rfl
      · rw [hle.out]; unfold maxLen; omega
      · rw [hle.out]; omega
      · have := hbl.size; have := Below.size hb5; simp at this ⊢; omega
      intro v' w6 ho6 hg6 _
      have hbl6 : BW w w6 := (Below.alloc (hb4.on hb5) (by have := Below.size hb4; have := Below.size hb5; omega) _).grown hg6 (by have h8 := Below.size (hb4.on hb5); rw [World.size_alloc]; omega) (fun g hg => (hv1.lt g hg).1)
      have hbase : wr.heap.size ≥ w.heap.size := hbl.size
      have HO6 : Hid (Rows2 w (stsK s (k + 1)) v' w6) := by
        show Rows2 w (stsK s (k + 1)) v' w6
        rw [hsu.out]
        refine Rows2.snoc hv1 hv2 ?_ hg6 ho6
        refine ⟨hu5.1, ?_⟩
        rcases hu5.2 with h0 | ⟨g, cp', cur, e1, e2, e3⟩
        · exact .inl h0
        · exact .inr ⟨g, cp', cur, e1, by simp at e2; omega, e3⟩
      clear ho6 hg6 hv1 hv2 hu5
      go_wp2
      go_roundw
      case rel => exact ⟨hbl6, k + 1, by omega, by go_num, HO6⟩
      case measure => simp [intOf]; omega
    · obtain rfl : k = n := by omega
      go_wp2
      go_ret
      exact ⟨_, rfl, hown.out, hbl⟩
theorem entries_nil (w : World) : Calls Try.prog 23 #[.pointer none] w fun e w' => e = .returned (.slice none 0 0) ∧ BW w w' := by
  have HA := Lib.hid (all_nil w)
  go_enter Try.func23, Try.ntmps23
  go_wp2_with (go_at_call 35; refine HA.out.mono ?_; rintro e w3 ⟨rfl, rfl⟩)
  go_loopw [3, 9] (fun v i wx => v = .slice none 0 0 ∧ i = .int .i64 0 ∧ w = wx) (fun _ i _ => 0)
  case atStart => exact ⟨rfl, rfl, rfl⟩
  case round =>
    obtain ⟨rfl, rfl, rfl⟩ := hrel
    go_wp2
    go_ret
    exact ⟨rfl, Below.refl _ _⟩
end Go.Proofs.Ytcddgcchpmjdiaa
