/- The document's Ready. -/
import Derived.Test.YtcddgcchpmjdiaaWj
set_option maxRecDepth 100000
set_option linter.unusedVariables false
namespace Go.Proofs.Ytcddgcchpmjdiaa
open Go.RowKit

theorem entG_len (e : Ent) : (entG e).length = e.st.length := List.length_map ..
/-- An entry's row, its first store. -/
theorem RwAt.ent {base m cv : Nat} {s : Bst} {Av : Option Addr} {us : List Value} {X : World} (h : RwAt base (s.es.map entG) (.slice Av m cv) us X) (hok : BsOk s) {k : Nat} (hk : k < s.es.length) :
    ∃ gv gk ck, Av = some ⟨gv, 0, none⟩ ∧ m = s.es.length ∧ 0 < s.es[k].st.length ∧ s.es[k].st.length ≤ 8 ∧ ∀ x, RwAt base (s.es.map entG) (.slice Av m cv) us x →
      x.cell? ⟨gv, k, none⟩ = some (.slice (some ⟨gk, 0, none⟩) s.es[k].st.length ck) ∧ x.ownsRow base 63 5 (.slice (some ⟨gk, 0, none⟩) s.es[k].st.length ck) s.es[k].st.length (cellsS (entG s.es[k])) ∧
      ∀ t u, (stoC (hdE s.es[k], s.es[k].ep)).toList[t]? = some u → x.cell? ⟨gk, t, none⟩ = some u := by
  have hul : us.length = s.es.length := by rw [h.len, List.length_map]
  have hm : m = us.length := by
    have h1 := h.row
    rcases h1.2 with ⟨e, e2⟩ | ⟨g, cap, cur, e, _⟩
    · cases e; omega
    · cases e; rfl
  have hku : k < us.length := by omega
  have hkl : k < (s.es.map entG).length := by rw [List.length_map]; exact hk
  have hls : (s.es.map entG)[k] = entG s.es[k] := List.getElem_map _
  have h0 := hok.some _ (List.getElem_mem hk)
  have hrow := h.each k hku hkl
  rw [hls, entG_len] at hrow
  obtain ⟨A, c, hu⟩ := own_shape hrow
  rw [hu] at hrow
  obtain ⟨gk, rfl, _⟩ := row_at5 hrow (entG_len _).symm (i := 0) (by rw [entG_len]; exact h0.1)
  have hgv : ∃ gv, Av = some ⟨gv, 0, none⟩ := by
    rcases h.row.2 with ⟨e, e2⟩ | ⟨g, cap, cur, e, _⟩
    · omega
    · cases e; exact ⟨g, rfl⟩
  obtain ⟨gv, rfl⟩ := hgv
  have hhd : (entG s.es[k])[0]'(by rw [entG_len]; exact h0.1) = (hdE s.es[k], s.es[k].ep) := by
    unfold entG hdE
    rw [List.getElem_map, List.getD_eq_getElem?_getD, List.getElem?_eq_getElem h0.1]
    rfl
  refine ⟨gv, gk, c, rfl, by omega, h0.1, h0.2, fun x hx => ?_⟩
  have hr2 := hx.each k hku hkl
  rw [hls, entG_len, hu] at hr2
  refine ⟨?_, hr2, fun t u ht => ?_⟩
  · have hr := hx.row
    subst hm
    rw [hr.cellAt k (by omega), List.getElem?_eq_getElem hku, hu]
  · obtain ⟨g2, e2, h2⟩ := row_at5 hr2 (entG_len _).symm (i := 0) (by rw [entG_len]; exact h0.1)
    cases e2
    rw [hhd] at h2
    have := h2 t u ht
    rw [Nat.zero_mul, Nat.zero_add] at this
    exact this
/-- What Ready's loops hold. -/
structure RE (w : World) (s : Bst) (v : Value) (us : List Value) (out : Value) (k : Nat) (x : World) : Prop where
  low : BW w x
  rw' : RwAt w.heap.size (s.es.map entG) v us x
  own : x.ownsRow w.heap.size 3 1 out (rdyI s k).length (cellsI (rdyI s k))
theorem RE.on {w : World} {s : Bst} {v : Value} {us : List Value} {out : Value} {k : Nat} {x y : World} (h : RE w s v us out k x) (b : BW x y) : RE w s v us out k y :=
  ⟨h.low.on b, h.rw'.on b, (Fr.of [] b).row h.own (by simp)⟩
theorem RE.drewN {w : World} {s : Bst} {v : Value} {us : List Value} {out : Value} {k : Nat} {x : World} (h : RE w s v us out k x) (n : Nat) : RE w s v us out k (x.drewN n) := h.on (below_drewN' (Below.refl _ _) n)
theorem least_next {s : Bst} {E : Int} {j : Nat} (hj : j < s.es.length) {b b2 : Bool} (h : b = true ↔ ∀ z (hz : z < s.es.length), z < j → E ≤ s.es[z].ep) (h2 : b2 = true ↔ b = true ∧ E ≤ s.es[j].ep) :
    b2 = true ↔ ∀ z (hz : z < s.es.length), z < j + 1 → E ≤ s.es[z].ep := by
  rw [h2, h]
  constructor
  · rintro ⟨h3, h4⟩ z hz hzj
    by_cases e : z = j
    · subst e; exact h4
    · exact h3 z hz (by omega)
  · intro h3
    exact ⟨fun z hz hzj => h3 z hz (by omega), h3 j hj (by omega)⟩
set_option maxHeartbeats 8000000 in
theorem rready_c {s : Bst} {D : Dbf} {q : Nat} {vl : Value} {w : World} (h : DAt D q vl w) (ht : TI s D) (hok : BsOk s) (hl : D.l.length ≤ 1000) :
    Calls Try.prog 38 #[.pointer (some ⟨q, 0, none⟩)] w (RetOwn w 3 1 (rdyI s s.es.length).length (cellsI (rdyI s s.es.length))) := by
  obtain ⟨i0, hi, hz0, hz1, hz2⟩ := info_parts Try.info3b
  have hE := rentries_c h hl (fun x hx => (ht.ok hok hx).1)
  rw [ht.grp] at hE
  have HE := Lib.hid hE
  have hl4 := hok.len
  have HENT := Lib.hid (fun m cv Av us X (hX : RwAt w.heap.size (s.es.map entG) (.slice Av m cv) us X) k hk => hX.ent hok (k := k) hk)
  have HRL := Lib.hid (fun i (hi : i < s.es.length) => ready_least hok hi)
  clear hE h ht hok
  go_enter Try.func38, Try.ntmps38
  go_wp2_with (first
    | (go_at_call 33; refine HE.out.mono ?_; rintro e w1 ⟨v, us, rfl, hrw, hbw⟩; have hul : us.length = s.es.length := by { rw [hrw.len, List.length_map] }; obtain ⟨Av, cv, rfl⟩ := own_shape hrw.row; rw [hul] at hrw ⊢; have HR0 : Hid (RE w s (.slice Av s.es.length cv) us (.slice none 0 0) 0 w1) := ⟨hbw, hrw, World.ownsRow_nil _ _ _ _⟩; clear hrw hbw hul))
  clear HE
  go_loopw [4, 5, 6, 7] (fun out i _ _ wx => ∃ k : Nat, k ≤ s.es.length ∧ i = .int .i64 (k : Int) ∧ Hid (RE w s (.slice Av s.es.length cv) us out k wx)) (fun _ i _ _ _ => s.es.length - (intOf i).toNat)
  case atStart => exact ⟨0, by omega, rfl, HR0.out⟩
  case round =>
    obtain ⟨i, hk, rfl, HX⟩ := hrel
    clear HR0
    by_cases hlt : i < s.es.length
    · have hltI : (i : Int) < (s.es.length : Int) := by omega
      have hin : i < s.es.length := hlt
      obtain ⟨gv, gi, ci, rfl, hm, hst0, hst8, hcl⟩ := HENT.out _ _ _ _ _ HX.out.rw' i hin
      have HCI := Lib.hid hcl
      have HL := Lib.hid (HRL.out i hin)
      obtain ⟨E, hEE⟩ : ∃ E, s.es[i].ep = E := ⟨_, rfl⟩
      rw [hEE] at HCI HL
      obtain ⟨li, hli⟩ : ∃ li, s.es[i].st.length = li := ⟨_, rfl⟩
      rw [hli] at HCI hst0 hst8
      clear hcl hm hEE hli
      generalize hdE s.es[i] = fi at *
      have hliI : (0 : Int) < (li : Int) := by omega
      go_wp2
      go_loopw [6, 7] (fun b j wx => ∃ k : Nat, k ≤ s.es.length ∧ j = .int .i64 (k : Int) ∧ ∃ bb : Bool, b = .bool bb ∧ Hid (RE w s (.slice (some ⟨gv, 0, none⟩) s.es.length cv) us u4 i wx) ∧ Hid (bb = true ↔ ∀ z (hz : z < s.es.length), z < k → E ≤ s.es[z].ep)) (fun _ j _ => s.es.length - (intOf j).toNat)
      case atStart => exact ⟨0, by omega, rfl, true, rfl, HX.out, ⟨fun _ z hz h0 => absurd h0 (Nat.not_lt_zero _), fun _ => rfl⟩⟩
      case round =>
        obtain ⟨j, hj, rfl, bb, rfl, HY, HB⟩ := hrel
        clear HX
        by_cases hjl : j < s.es.length
        · have hjI : (j : Int) < (s.es.length : Int) := by omega
          have hjn : j < s.es.length := hjl
          obtain ⟨gv2, gj, cj, e2, _, hsj0, _, hcj⟩ := HENT.out _ _ _ _ _ HY.out.rw' j hjn
          cases e2
          have HN2 := Lib.hid (fun b2 h2 => least_next (b2 := b2) hjn HB.out h2)
          obtain ⟨E2, hE2⟩ : ∃ E2, s.es[j].ep = E2 := ⟨_, rfl⟩
          obtain ⟨lj, hlj⟩ : ∃ lj, s.es[j].st.length = lj := ⟨_, rfl⟩
          rw [hE2] at hcj HN2
          rw [hlj] at hcj hsj0
          clear hE2 hlj
          have hljI : (0 : Int) < (lj : Int) := by omega
          have a1 := (HCI.out _ HY.out.rw').1
          have a2 : wr.cell? ⟨gi, 4, none⟩ = some (.int .i64 E) := (HCI.out _ HY.out.rw').2.2 4 _ rfl
          have b1 := (hcj _ HY.out.rw').1
          have b2 : wr.cell? ⟨gj, 4, none⟩ = some (.int .i64 E2) := (hcj _ HY.out.rw').2.2 4 _ rfl
          clear hcj
          cases bb with
          | true =>
            by_cases hle : E ≤ E2
            · have HN3 := Lib.hid ((HN2.out true (by simp [hle])).1 rfl)
              clear HN2 HB
              go_wp2_with (fail)
              go_quiet (fail)
              go_wp2
              go_roundw
              case rel => exact ⟨j + 1, by omega, by first | rfl | go_num, true, rfl, HY.out.drewN _, ⟨fun _ => HN3.out, fun _ => rfl⟩⟩
              case measure => simp [intOf]; omega
            · have HN3 := Lib.hid (HN2.out false (by simp [hle]))
              have hd : decide (E ≤ E2) = false := decide_eq_false hle
              clear HN2 HB
              go_wp2_with (fail)
              go_quiet (fail)
              go_wp2
              go_roundw
              case rel => exact ⟨j + 1, by omega, by first | rfl | go_num, false, by first | rfl | (rw [hd]) | (congr 1), HY.out.drewN _, HN3⟩
              case measure => simp [intOf]; omega
          | false =>
            have HN3 := Lib.hid (HN2.out false (by simp))
            clear HN2 HB
            go_wp2_with (fail)
            go_quiet (fail)
            go_wp2
            go_roundw
            case rel => exact ⟨j + 1, by omega, by first | rfl | go_num, false, rfl, HY.out.drewN _, HN3⟩
            case measure => simp [intOf]; omega
        · obtain rfl : j = s.es.length := by omega
          have HLB : Hid (rdyP s i = bb) := by
            show _ = _
            rw [Bool.eq_iff_iff, HL.out, HB.out]
            constructor
            · intro h z hz _; exact h z hz
            · intro h z hz; exact h z hz hz
          clear HB HL HCI
          have hlen := rdyI_len s i
          cases bb with
          | false =>
            have HI := Lib.hid (rdyI_no HLB.out)
            clear HLB
            go_wp2
            go_roundw
            case rel => exact ⟨i + 1, by omega, by first | rfl | go_num, HY.out.low, HY.out.rw', by rw [HI.out]; exact HY.out.own⟩
            case measure => simp [intOf]; omega
          | true =>
            have HI := Lib.hid (rdyI_yes HLB.out)
            have HOW := Lib.hid (HY.out.own.alloc (.cells #[.int .i64 (i : Int)] 3))
            have HRW := Lib.hid (HY.out.rw'.on (BW.new (Below.refl _ _) (.cells #[.int .i64 (i : Int)] 3)))
            have HLO := Lib.hid (BW.new HY.out.low (.cells #[.int .i64 (i : Int)] 3))
            clear HLB
            go_wp2_with (at_builtin; refine wpList_append_own _ rfl _ _ 46 rfl w.heap.size 3 i0 (.int .i64 0) 1 8 Try.underlying46 hi hz0 hz1 hz2 rfl (by decide) _ _ _ rfl HOW.out ⟨wr.heap.size, 0, none⟩ 1 1 [.int .i64 (i : Int)] rfl rfl ?_ ?_ ?_ ?_ ?_ ?_)
            · exact cell_new _ _ _
            · intro u hu; rw [List.mem_singleton] at hu; subst hu; rfl
            · unfold maxLen; omega
            · omega
            · exact Below.size HLO.out
            intro v' w6 ho6 hg6 _
            have hb6 : BW w w6 := Below.grown HLO.out hg6 (Below.size HLO.out) (fun g hg => (HOW.out.lt g hg).1)
            have HRN : Hid (RE w s (.slice (some ⟨gv, 0, none⟩) s.es.length cv) us v' (i + 1) w6) := by
              refine ⟨hb6, ⟨HRW.out.len, HRW.out.row.kept hg6 (rows_apart HRW.out.row HOW.out (by decide)), fun a h1 h2 => (HRW.out.each a h1 h2).kept hg6 (rows_apart (HRW.out.each a h1 h2) HOW.out (by decide)), HRW.out.apart⟩, ?_⟩
              rw [HI.out, List.length_append]
              unfold cellsI
              rw [List.map_append]
              exact ho6
            clear ho6 hg6 hb6 HOW HRW HLO
            go_wp2
            go_roundw
            case rel => exact ⟨i + 1, by omega, by first | rfl | go_num, HRN⟩
            case measure => simp [intOf]; omega
    · obtain rfl : i = s.es.length := by omega
      go_wp2
      go_ret
      exact ⟨_, rfl, HX.out.own, HX.out.low⟩
end Go.Proofs.Ytcddgcchpmjdiaa
