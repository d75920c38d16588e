/- The document's Entries: rows of stores that grow, in a row. -/
import Derived.Test.YtcddgcchpmjdiaaWi
import Derived.Test.YtcddgcchpmjdiaaVr
set_option maxRecDepth 100000
set_option linter.unusedVariables false
namespace Go.Proofs.Ytcddgcchpmjdiaa
open Go.RowKit

theorem grp_head (l : List Sto) {k : Nat} (hk : k < (grpL l).length) (hk2 : k < (keysL l).length) : ∃ h0 : 0 < (grpL l)[k].length, keyS (grpL l)[k][0] = (keysL l)[k] ∧ (grpL l)[k][0] ∈ l := by
  have e : (grpL l)[k] = selL l (keysL l)[k] := List.getElem_map (selL l)
  have hm : (keysL l)[k] ∈ keysL l := List.getElem_mem _
  obtain ⟨x, hx, hkx⟩ := (keysL_mem _ _).1 hm
  have h0 : 0 < (grpL l)[k].length := by
    rw [e]
    exact List.length_pos_of_mem (List.mem_filter.2 ⟨hx, by simp [hkx]⟩)
  have hin : (grpL l)[k][0] ∈ selL l (keysL l)[k] := by
    have : (grpL l)[k][0] ∈ (grpL l)[k] := List.getElem_mem _
    rw [← e]; exact this
  have hin' := List.mem_filter.1 hin
  exact ⟨h0, of_decide_eq_true hin'.2, hin'.1⟩
theorem keysR_le : ∀ r : List Sto, (keysR r).length ≤ r.length
  | [] => Nat.le_refl _
  | x :: r => by
    rw [keysR]
    have := keysR_le r
    split
    · simp; omega
    · simp; omega
theorem keysL_le (l : List Sto) : (keysL l).length ≤ l.length := by
  have := keysR_le l.reverse
  rwa [List.length_reverse] at this
theorem grp_le (l : List Sto) {k : Nat} (hk : k < (grpL l).length) (hl : l.length ≤ 1000) : (grpL l)[k].length ≤ 1000 := by
  have hk2 : k < (keysL l).length := by rw [← grpL_len]; exact hk
  have e : (grpL l)[k] = selL l (keysL l)[k] := List.getElem_map (selL l)
  rw [e]
  exact Nat.le_trans (List.length_filter_le _ _) hl
/-- Rows of stores in a row. -/
structure RwAt (base : Nat) (ls : List (List Sto)) (v : Value) (us : List Value) (w : World) : Prop where
  len : us.length = ls.length
  row : w.ownsRow base 29 1 v us.length us
  each : ∀ i (h : i < us.length) (h2 : i < ls.length), w.ownsRow base 63 5 us[i] ls[i].length (cellsS ls[i])
  apart : ∀ i j (hi : i < us.length) (hj : j < us.length), i ≠ j → us[i].ownBlock = none ∨ us[i].ownBlock ≠ us[j].ownBlock
theorem RwAt.on {base : Nat} {ls : List (List Sto)} {v : Value} {us : List Value} {w w' : World} (h : RwAt base ls v us w) (k : BW w w') : RwAt base ls v us w' :=
  ⟨h.len, (Fr.of [] k).row h.row (by simp), fun i h1 h2 => (Fr.of [] k).row (h.each i h1 h2) (by simp), h.apart⟩
theorem RwAt.nil0 (base : Nat) (w : World) : RwAt base [] (.slice none 0 0) [] w := ⟨rfl, World.ownsRow_nil _ _ _ _, fun i h _ => absurd h (Nat.not_lt_zero _), fun i j h _ _ => absurd h (Nat.not_lt_zero _)⟩
theorem slice_own (g n c : Nat) : (Value.slice (some ⟨g, 0, none⟩) n c).ownBlock = some g := rfl
/-- A new row behind the others. -/
theorem RwAt.grow {base : Nat} {ls : List (List Sto)} {v v' : Value} {us : List Value} {w w3 : World} (h : RwAt base ls v us w) (x : Sto) (hb : base ≤ w.heap.size)
    (hg : ((w.alloc (.cells (stoC x) 63)).alloc (.cells #[.slice (some ⟨w.heap.size, 0, none⟩) 1 1] 29)).grownBy w3 v.ownBlock)
    (ho : w3.ownsRow base 29 1 v' (us.length + 1) (us ++ [.slice (some ⟨w.heap.size, 0, none⟩) 1 1])) : RwAt base (ls ++ [[x]]) v' (us ++ [.slice (some ⟨w.heap.size, 0, none⟩) 1 1]) w3 := by
  have hrow := (h.row.alloc (.cells (stoC x) 63)).alloc (.cells #[.slice (some ⟨w.heap.size, 0, none⟩) 1 1] 29)
  have hnew : (w.alloc (.cells (stoC x) 63)).ownsRow base 63 5 (.slice (some ⟨w.heap.size, 0, none⟩) 1 1) 1 (stoC x).toList := World.ownsRow_lit w (stoC x) 1 hb (by decide) rfl
  have hnew2 := hnew.alloc (.cells #[.slice (some ⟨w.heap.size, 0, none⟩) 1 1] 29)
  have hl := h.len
  refine ⟨by simp [hl], by rw [List.length_append]; exact ho, fun i h1 h2 => ?_, fun i j hi hj hij => ?_⟩
  · by_cases hi : i < us.length
    · rw [List.getElem_append_left hi, List.getElem_append_left (by omega)]
      have := ((h.each i hi (by omega)).alloc (.cells (stoC x) 63)).alloc (.cells #[.slice (some ⟨w.heap.size, 0, none⟩) 1 1] 29)
      exact this.kept hg (rows_apart this hrow (by decide))
    · have hi2 : i = us.length := by simp at h1; omega
      subst hi2
      rw [List.getElem_append_right (Nat.le_refl _), List.getElem_append_right (by omega)]
      simp only [Nat.sub_self, List.getElem_cons_zero, hl]
      have e : cellsS [x] = (stoC x).toList := by unfold cellsS; simp
      rw [e]
      exact hnew2.kept hg (rows_apart hnew2 hrow (by decide))
  · have old : ∀ i (hi : i < us.length), us[i].ownBlock ≠ some w.heap.size := fun i hi e => by
      have := ((h.each i hi (by omega)).lt _ e).2; omega
    simp at hi hj
    by_cases h1 : i < us.length
    · rw [List.getElem_append_left h1]
      by_cases h2 : j < us.length
      · rw [List.getElem_append_left h2]; exact h.apart i j h1 h2 hij
      · have : j = us.length := by omega
        subst this
        rw [List.getElem_append_right (Nat.le_refl _)]
        simp only [Nat.sub_self, List.getElem_cons_zero]
        exact .inr (old i h1)
    · have : i = us.length := by omega
      subst this
      rw [List.getElem_append_right (Nat.le_refl _)]
      simp only [Nat.sub_self, List.getElem_cons_zero]
      rw [List.getElem_append_left (by omega)]
      exact .inr (fun e => old j (by omega) (e.symm.trans (slice_own _ _ _)))
/-- A row of them grows by one. -/
theorem RwAt.put {base gv m cv : Nat} {ls : List (List Sto)} {us : List Value} {w w2 : World} {k g' c' : Nat} (h : RwAt base ls (.slice (some ⟨gv, 0, none⟩) m cv) us w) (hm : m = us.length) (x : Sto) (hk : k < us.length) (hk2 : k < ls.length)
    (hg : (w.alloc (.cells (stoC x) 63)).grownBy w2 us[k].ownBlock) (hat : us[k].ownBlock = some g' ∨ g' = (w.alloc (.cells (stoC x) 63)).heap.size)
    (ho : w2.ownsRow base 63 5 (.slice (some ⟨g', 0, none⟩) (ls[k].length + 1) c') (ls[k].length + 1) (cellsS ls[k] ++ (stoC x).toList)) :
    RwAt base (ls.set k (ls[k] ++ [x])) (.slice (some ⟨gv, 0, none⟩) m cv) (us.set k (.slice (some ⟨g', 0, none⟩) (ls[k].length + 1) c')) (w2.setCell ⟨gv, k, none⟩ (.slice (some ⟨g', 0, none⟩) (ls[k].length + 1) c')) := by
  subst hm
  have hrow := h.row.alloc (.cells (stoC x) 63)
  have hrow2 := hrow.kept hg (by
    have hke := (h.each k hk hk2).alloc (.cells (stoC x) 63)
    rcases rows_apart hrow hke (by decide) with h1 | h1
    · exact .inl h1
    · exact .inr h1)
  have hst := hrow2.stored k (.slice (some ⟨g', 0, none⟩) (ls[k].length + 1) c')
  have hset : Fr [gv] w2 (w2.setCell ⟨gv, k, none⟩ (.slice (some ⟨g', 0, none⟩) (ls[k].length + 1) c')) := (Fr.refl _ _).setCell (.inl (by simp)) _
  have hl := h.len
  refine ⟨by simp [hl], by rw [List.length_set]; exact hst.1, fun i h1 h2 => ?_, fun i j hi hj hij => ?_⟩
  · simp only [List.length_set] at h1 h2
    have keepG : ∀ {n : Nat} {xs : List Value} {u : Value}, w2.ownsRow base 63 5 u n xs → (w2.setCell ⟨gv, k, none⟩ (.slice (some ⟨g', 0, none⟩) (ls[k].length + 1) c')).ownsRow base 63 5 u n xs := fun hu =>
      hset.row hu (fun i hi hm => by
        have hm : i = gv := by simpa using hm
        rcases rows_apart hu hrow2 (by decide) with h3 | h3
        · rw [hi] at h3; cases h3
        · exact h3 (by rw [hi, hm]; rfl))
    by_cases hik : i = k
    · subst hik
      rw [List.getElem_set_self, List.getElem_set_self, cellsS_append, List.length_append]
      have e : cellsS [x] = (stoC x).toList := by unfold cellsS; simp
      rw [e]
      exact keepG ho
    · rw [List.getElem_set_ne (fun e => hik e.symm), List.getElem_set_ne (fun e => hik e.symm)]
      have hi3 := (h.each i h1 h2).alloc (.cells (stoC x) 63)
      exact keepG (hi3.kept hg (h.apart i k h1 hk hik))
  · have hi' : i < us.length := by simpa using hi
    have hj' : j < us.length := by simpa using hj
    have other : ∀ i (hi : i < us.length), i ≠ k → us[i].ownBlock = some g' → False := fun i hi hik e => by
      rcases hat with h1 | h1
      · rcases h.apart i k hi hk hik with h2 | h2
        · rw [e] at h2; cases h2
        · exact h2 (e.trans h1.symm)
      · have := ((h.each i hi (by omega)).lt _ e).2
        rw [h1, World.size_alloc] at this
        omega
    by_cases hik : i = k
    · subst hik
      rw [List.getElem_set_self, List.getElem_set_ne hij]
      exact .inr (fun e => other j hj' (fun e2 => hij e2.symm) (e.symm.trans (slice_own _ _ _)))
    · rw [List.getElem_set_ne (fun e => hik e.symm)]
      by_cases hjk : j = k
      · subst hjk
        rw [List.getElem_set_self]
        exact .inr (fun e => other i hi' hik (e.trans (slice_own _ _ _)))
      · rw [List.getElem_set_ne (fun e => hjk e.symm)]
        exact h.apart i j hi' hj' hij
theorem take_succ_l {X : Type} {l : List X} {i : Nat} (h : i < l.length) : l.take (i + 1) = l.take i ++ [l[i]] := by rw [List.take_succ_eq_append_getElem h]
/-- What Entries' loops hold. -/
structure EE (D : Dbf) (q : Nat) (vl : Value) (w : World) (ls : List (List Sto)) (v : Value) (us : List Value) (x : World) : Prop where
  d : DAt D q vl x
  low : BW w x
  rw' : RwAt w.heap.size ls v us x
theorem EE.on {D : Dbf} {q : Nat} {vl : Value} {w : World} {ls : List (List Sto)} {v : Value} {us : List Value} {x y : World} (h : EE D q vl w ls v us x) (k : BW x y) : EE D q vl w ls v us y := ⟨h.d.on k, h.low.on k, h.rw'.on k⟩
theorem EE.at_ {D : Dbf} {q m cv : Nat} {vl : Value} {w : World} {ls : List (List Sto)} {Av : Option Addr} {us : List Value} {X : World} (h : EE D q vl w ls (.slice Av m cv) us X) (hm : m = us.length) {k : Nat} (hk : k < us.length) :
    ∃ gv, Av = some ⟨gv, 0, none⟩ ∧ ∀ x, EE D q vl w ls (.slice Av m cv) us x → x.cell? ⟨gv, k, none⟩ = some us[k] ∧ x.frozen? ⟨gv, k, none⟩ = false := by
  subst hm
  have key : ∀ {x : World} (hx : EE D q vl w ls (.slice Av us.length cv) us x), ∃ gv, Av = some ⟨gv, 0, none⟩ := fun hx => by
    rcases hx.rw'.row.2 with ⟨_, h2⟩ | ⟨g, cap, cur, hv, _⟩
    · omega
    · cases hv; exact ⟨g, rfl⟩
  obtain ⟨gv, rfl⟩ := key h
  refine ⟨gv, rfl, fun x hx => ⟨?_, hx.rw'.row.frozenAt k⟩⟩
  rw [hx.rw'.row.cellAt k (by omega)]
  exact List.getElem?_eq_getElem hk
theorem EE.first {D : Dbf} {q : Nat} {vl : Value} {w : World} {ls : List (List Sto)} {v : Value} {us : List Value} {X : World} (h : EE D q vl w ls v us X) {k : Nat} (hk : k < us.length) (hk2 : k < ls.length) (h0 : 0 < ls[k].length) :
    ∃ gk ck, us[k] = .slice (some ⟨gk, 0, none⟩) ls[k].length ck ∧ ∀ x, EE D q vl w ls v us x → ∀ t u, (stoC ls[k][0]).toList[t]? = some u → x.cell? ⟨gk, 0 + t, none⟩ = some u := by
  have hr := h.rw'.each k hk hk2
  obtain ⟨A, c, hu⟩ := own_shape hr
  rw [hu] at hr
  obtain ⟨gk, rfl, _⟩ := row_at5 hr rfl h0
  refine ⟨gk, c, hu, fun x hx t u ht => ?_⟩
  have hr' := hx.rw'.each k hk hk2
  rw [hu] at hr'
  obtain ⟨g2, e2, h2⟩ := row_at5 hr' rfl h0
  cases e2
  have := h2 t u ht
  rw [Nat.zero_mul] at this
  exact this
set_option maxHeartbeats 8000000 in
theorem rentries_c {D : Dbf} {q : Nat} {vl : Value} {w : World} (h : DAt D q vl w) (hl : D.l.length ≤ 1000) (hok : ∀ x ∈ D.l, StOk x.1) :
    Calls Try.prog 33 #[.pointer (some ⟨q, 0, none⟩)] w fun e w' => ∃ v us, e = .returned v ∧ RwAt w.heap.size (grpL D.l) v us w' ∧ BW w w' := by
  obtain ⟨A, c, rfl⟩ := own_shape h.row
  obtain ⟨iS, hiS, hzS, hsS, hbS⟩ := inf_parts (P := Try.prog) (e := 63) (z := .agg (stoC (⟨0, 0, 0, 0⟩, 0))) (n := 5) (b := 40) (by kernel_rfl)
  obtain ⟨iR, hiR, hzR, hsR, hbR⟩ := inf_parts (P := Try.prog) (e := 29) (z := .slice none 0 0) (n := 1) (b := 24) (by kernel_rfl)
  have HD := Lib.hid (fun x (k : BW w x) => h.on k)
  have HOK := Lib.hid hok
  clear h hok
  have HTG := Lib.hid tog_c
  go_enter Try.func33, Try.ntmps33
  go_wp2
  go_loopw [3, 4, 5, 6] (fun v i _ _ wx => ∃ k : Nat, k ≤ D.l.length ∧ i = .int .i64 (k : Int) ∧ ∃ us, Hid (EE D q (.slice A D.l.length c) w (grpL (D.l.take k)) v us wx)) (fun _ i _ _ _ => D.l.length - (intOf i).toNat)
  case atStart => exact ⟨0, by omega, rfl, [], ⟨HD.out w (Below.refl _ _), Below.refl _ _, RwAt.nil0 _ _⟩⟩
  case round =>
    obtain ⟨i, hi, rfl, us, HX⟩ := hrel
    have c0 : wr.cell? ⟨q, 0, none⟩ = some (.slice A D.l.length c) := HX.out.d.head.cell 0
    by_cases hlt : i < D.l.length
    · have hltI : (i : Int) < (D.l.length : Int) := by omega
      obtain ⟨g, rfl, hg⟩ := HX.out.d.at_ hlt
      have HCS := Lib.hid hg
      have hst := HOK.out _ (List.getElem_mem hlt)
      have HTK := Lib.hid (take_succ_l hlt)
      have HGN := Lib.hid (fun (hh : keyS D.l[i] ∉ keysL (D.l.take i)) => grpL_new (D.l.take i) D.l[i] hh)
      have HGO := Lib.hid (fun k (hk : k < (keysL (D.l.take i)).length) (hh : (keysL (D.l.take i))[k] = keyS D.l[i]) => grpL_old (D.l.take i) D.l[i] (k := k) hk hh)
      have HMEM := Lib.hid (fun κ => keysL_mem (D.l.take i) κ)
      have HGH := Lib.hid (fun k hk hk2 => grp_head (D.l.take i) (k := k) hk hk2)
      have HGE := Lib.hid (fun k hk hk2 => (show (grpL (D.l.take i))[k]'hk = selL (D.l.take i) ((keysL (D.l.take i))[k]'hk2) from List.getElem_map (selL (D.l.take i))))
      have HLK := Lib.hid (grpL_len (D.l.take i))
      have HLE := Lib.hid (Nat.le_trans (keysL_le (D.l.take i)) (show (D.l.take i).length ≤ 1000 by rw [List.length_take]; omega))
      have HOT := Lib.hid (fun x (hx : x ∈ D.l.take i) => HOK.out x (List.mem_of_mem_take hx))
      rw [← HTK.out] at HGN HGO
      clear hg HTK
      obtain ⟨ls2, hls2⟩ : ∃ ls2, grpL (D.l.take (i + 1)) = ls2 := ⟨_, rfl⟩
      rw [hls2] at HGN HGO
      have HLS2 := Lib.hid hls2
      have HGL := Lib.hid (fun k (hk : k < (grpL (D.l.take i)).length) => (show (grpL (D.l.take i))[k].length ≤ 1000 from grp_le _ hk (by rw [List.length_take]; omega)))
      clear hls2
      generalize grpL (D.l.take i) = ls at *
      generalize keysL (D.l.take i) = ks at *
      generalize selL (D.l.take i) = sel at *
      generalize D.l.take i = lt at *
      generalize D.l[i] = x at *
      obtain ⟨⟨xi, xa, xz, xd⟩, xe⟩ := x
      simp only [stoC] at HCS
      have hkx : keyS (⟨xi, xa, xz, xd⟩, xe) = (xe, xa / 8) := rfl
      rw [hkx] at HGN HGO
      obtain ⟨_, _, hxa0, _, hxa1⟩ := mayW_out hst.may
      simp only at hxa0 hxa1
      clear hst hkx
      obtain ⟨Av, cv, rfl⟩ := own_shape HX.out.rw'.row
      have HUL := Lib.hid HX.out.rw'.len
      have hus : us.length ≤ 1000 := by have h1 := HUL.out; have h2 := HLE.out; have h3 := HLK.out; omega
      go_wp2
      go_loopw [5, 6] (fun a j wx => ∃ k : Nat, k ≤ us.length ∧ j = .int .i64 (k : Int) ∧ Hid (EE D q (.slice (some ⟨g, 0, none⟩) D.l.length c) w ls (.slice Av us.length cv) us wx) ∧ ∃ t : Int, a = .int .i64 t ∧ Hid ((t = -1 ∧ ∀ z (hz : z < ks.length), z < k → ks[z] ≠ (xe, xa / 8)) ∨ ∃ n : Nat, t = (n : Int) ∧ n < k ∧ ∃ hn : n < ks.length, ks[n] = (xe, xa / 8) ∧ ∀ z (hz : z < ks.length), z < k → ks[z] = (xe, xa / 8) → z ≤ n)) (fun _ j _ => us.length - (intOf j).toNat)
      case atStart => exact ⟨0, by omega, rfl, HX.out, -1, rfl, .inl ⟨rfl, fun z hz h0 => by omega⟩⟩
      case round =>
        obtain ⟨k, hk, rfl, HY, t, rfl, HT⟩ := hrel
        clear HX
        by_cases hkl : k < us.length
        · have hkI : (k : Int) < (us.length : Int) := by omega
          have hk2 : k < ls.length := by have := HUL.out; omega
          have hk3 : k < ks.length := by rw [← HLK.out]; exact hk2
          obtain ⟨h0, hkey, hmem⟩ := HGH.out k hk2 hk3
          obtain ⟨gv, rfl, hcv⟩ := HY.out.at_ rfl hkl
          obtain ⟨gk, ck, huk, hfk⟩ := HY.out.first hkl hk2 h0
          have hsf := HOT.out _ hmem
          rw [huk] at hcv
          have HCV := Lib.hid hcv
          have HFK := Lib.hid hfk
          clear hcv hfk hmem huk
          generalize ls[k][0] = f at *
          generalize hnk : ls[k].length = nk at *
          obtain ⟨⟨fi, fa, fz, fd⟩, fe⟩ := f
          simp only [stoC] at HFK
          obtain ⟨_, _, hfa0, _, hfa1⟩ := mayW_out hsf.may
          simp only at hfa0 hfa1
          have hkk : ks[k] = (fe, fa / 8) := hkey.symm
          have HTGK := Lib.hid (fun X => HTG.out fi fa fz fd fe xi xa xz xd xe ⟨hfa0, by omega⟩ ⟨hxa0, by omega⟩ X)
          have HDE : Hid (decide (fe = xe ∧ fa / 8 = xa / 8) = decide (ks[k] = (xe, xa / 8))) := by
            show _ = _
            rw [hkk]
            congr 1
            simp only [Prod.mk.injEq]
          clear hsf hkey hkk hnk
          rw [HDE.out] at HTGK
          clear HDE
          have HYN : Hid (ks[k] ≠ (xe, xa / 8) → (t = -1 ∧ ∀ z (hz : z < ks.length), z < k + 1 → ks[z] ≠ (xe, xa / 8)) ∨ ∃ n : Nat, t = (n : Int) ∧ n < k + 1 ∧ ∃ hn : n < ks.length, ks[n] = (xe, xa / 8) ∧ ∀ z (hz : z < ks.length), z < k + 1 → ks[z] = (xe, xa / 8) → z ≤ n) := fun hne => by
            rcases HT.out with ⟨h1, h2⟩ | ⟨n, h1, h2, h3, h4, h5⟩
            · refine .inl ⟨h1, fun z hz hzk => ?_⟩
              by_cases e : z = k
              · subst e; exact hne
              · exact h2 z hz (by omega)
            · refine .inr ⟨n, h1, by omega, h3, h4, fun z hz hzk e => ?_⟩
              by_cases e2 : z = k
              · subst e2; exact absurd e hne
              · exact h5 z hz (by omega) e
          have HYY : Hid (ks[k] = (xe, xa / 8) → ∃ n : Nat, (k : Int) = (n : Int) ∧ n < k + 1 ∧ ∃ hn : n < ks.length, ks[n] = (xe, xa / 8) ∧ ∀ z (hz : z < ks.length), z < k + 1 → ks[z] = (xe, xa / 8) → z ≤ n) := fun he => ⟨k, rfl, by omega, hk3, he, fun z hz hzk _ => by omega⟩
          clear HT
          have hnk0 : 0 < nk := h0
          go_wp2_with (fail)
          go_cut [35] from 22 to 35 (fun b wx => b = .bool (decide (ks[k] = (xe, xa / 8))) ∧ Hid (EE D q (.slice (some ⟨g, 0, none⟩) D.l.length c) w ls (.slice (some ⟨gv, 0, none⟩) us.length cv) us wx))
          case first =>
            refine wp_region_held (S := EE D q (.slice (some ⟨g, 0, none⟩) D.l.length c) w ls (.slice (some ⟨gv, 0, none⟩) us.length cv) us) (by kernel_rfl) ?_
            change wpAnyH _ _ _ _ _ _ _ _ (World.drew _)
            have HS := HY.out.on (Below.drew (Below.refl _ _))
            clear HY
            generalize World.drew _ = w3 at *
            refine hk_val (i := 0) (oi := ⟨some 22, .move _, _, _, _, _⟩) (.slice (some ⟨gv, 0, none⟩) us.length cv) rfl (by kernel_rfl) (by kernel_rfl) (by kernel_rfl) (fun _ _ _ h => h) (by kernel_rfl) (fun _ _ => rfl) HS ?_
            simp only [Act.put, List.setIfInBounds_toArray, List.set_cons_zero, List.set_cons_succ]
            refine hk_val (i := 1) (oi := ⟨some 23, .move _, _, _, _, _⟩) (.int .i64 (k : Int)) rfl (by kernel_rfl) (by kernel_rfl) (by kernel_rfl) (fun _ _ _ h => h) (by kernel_rfl) (fun _ _ => rfl) HS ?_
            simp only [Act.put, List.setIfInBounds_toArray, List.set_cons_zero, List.set_cons_succ]
            refine hk_val (i := 2) (oi := ⟨some 24, .indexAddr _ _ _, _, _, _, _⟩) (.pointer (some ⟨gv, k, none⟩)) rfl (by kernel_rfl) (by kernel_rfl) (by kernel_rfl) (fun _ _ _ h => h) (by kernel_rfl) (fun _ _ => ex_index rfl rfl rfl rfl hkl Try.underlying64 (by kernel_rfl)) HS ?_
            simp only [Act.put, List.setIfInBounds_toArray, List.set_cons_zero, List.set_cons_succ]
            refine hk_val (i := 3) (oi := ⟨some 25, .load _ _, _, _, _, _⟩) (.slice (some ⟨gk, 0, none⟩) nk ck) rfl (by kernel_rfl) (by kernel_rfl) (by kernel_rfl) (fun _ _ _ h => h) (by kernel_rfl) (fun x hx => ex_load rfl rfl (HCV.out x hx).1 (by kernel_rfl)) HS ?_
            simp only [Act.put, List.setIfInBounds_toArray, List.set_cons_zero, List.set_cons_succ]
            refine hk_val (i := 4) (oi := ⟨some 26, .indexAddr _ _ _, _, _, _, _⟩) (.pointer (some ⟨gk, 0, none⟩)) rfl (by kernel_rfl) (by kernel_rfl) (by kernel_rfl) (fun _ _ _ h => h) (by kernel_rfl) (fun _ _ => Hz.ex_indexp (z := 5) (j := 0) rfl rfl rfl rfl hnk0 Try.underlying29 (by kernel_rfl) rfl) HS ?_
            simp only [Act.put, List.setIfInBounds_toArray, List.set_cons_zero, List.set_cons_succ]
            refine hk_val (i := 5) (oi := ⟨some 27, .load _ _, _, _, _, _⟩) (.agg #[.int .i64 fi, .int .i64 fa, .int .i64 fz, .int .u64 fd, .int .i64 fe]) rfl (by kernel_rfl) (by kernel_rfl) (by kernel_rfl) (fun _ _ _ h => h) (by kernel_rfl) (fun x hx => Hz.ex_load_cells [.int .i64 fi, .int .i64 fa, .int .i64 fz, .int .u64 fd, .int .i64 fe] rfl rfl (HFK.out x hx) Try.underlying63 rfl (by kernel_rfl)) HS ?_
            simp only [Act.put, List.setIfInBounds_toArray, List.set_cons_zero, List.set_cons_succ]
            refine hk_val (i := 6) (oi := ⟨some 28, .move _, _, _, _, _⟩) (.pointer (some ⟨q, 0, none⟩)) rfl (by kernel_rfl) (by kernel_rfl) (by kernel_rfl) (fun _ _ _ h => h) (by kernel_rfl) (fun _ _ => rfl) HS ?_
            simp only [Act.put, List.setIfInBounds_toArray, List.set_cons_zero, List.set_cons_succ]
            refine hk_val (i := 7) (oi := ⟨some 29, .nilCheck _, _, _, _, _⟩) (.pointer (some ⟨q, 0, none⟩)) rfl (by kernel_rfl) (by kernel_rfl) (by kernel_rfl) (fun _ _ _ h => h) (by kernel_rfl) (fun _ _ => rfl) HS ?_
            simp only [Act.put, List.setIfInBounds_toArray, List.set_cons_zero, List.set_cons_succ]
            refine hk_val (i := 8) (oi := ⟨some 30, .fieldAddr _ _ _, _, _, _, _⟩) (.pointer (some ⟨q, 0, none⟩)) rfl (by kernel_rfl) (by kernel_rfl) (by kernel_rfl) (fun _ _ _ h => h) (by kernel_rfl) (fun _ _ => by kernel_rfl) HS ?_
            simp only [Act.put, List.setIfInBounds_toArray, List.set_cons_zero, List.set_cons_succ]
            refine hk_val (i := 9) (oi := ⟨some 31, .load _ _, _, _, _, _⟩) (.slice (some ⟨g, 0, none⟩) D.l.length c) rfl (by kernel_rfl) (by kernel_rfl) (by kernel_rfl) (fun _ _ _ h => h) (by kernel_rfl) (fun x hx => ex_load rfl rfl (hx.d.head.cell 0) (by kernel_rfl)) HS ?_
            simp only [Act.put, List.setIfInBounds_toArray, List.set_cons_zero, List.set_cons_succ]
            refine hk_val (i := 10) (oi := ⟨some 32, .move _, _, _, _, _⟩) (.int .i64 (i : Int)) rfl (by kernel_rfl) (by kernel_rfl) (by kernel_rfl) (fun _ _ _ h => h) (by kernel_rfl) (fun _ _ => rfl) HS ?_
            simp only [Act.put, List.setIfInBounds_toArray, List.set_cons_zero, List.set_cons_succ]
            refine hk_val (i := 11) (oi := ⟨some 33, .indexAddr _ _ _, _, _, _, _⟩) (.pointer (some ⟨g, i * 5, none⟩)) rfl (by kernel_rfl) (by kernel_rfl) (by kernel_rfl) (fun _ _ _ h => h) (by kernel_rfl) (fun _ _ => Hz.ex_indexp (z := 5) rfl rfl rfl rfl hlt Try.underlying29 (by kernel_rfl) (Nat.zero_add _)) HS ?_
            simp only [Act.put, List.setIfInBounds_toArray, List.set_cons_zero, List.set_cons_succ]
            refine hk_val (i := 12) (oi := ⟨some 34, .load _ _, _, _, _, _⟩) (.agg #[.int .i64 xi, .int .i64 xa, .int .i64 xz, .int .u64 xd, .int .i64 xe]) rfl (by kernel_rfl) (by kernel_rfl) (by kernel_rfl) (fun _ _ _ h => h) (by kernel_rfl) (fun x hx => Hz.ex_load_cells [.int .i64 xi, .int .i64 xa, .int .i64 xz, .int .u64 xd, .int .i64 xe] rfl rfl (HCS.out x hx.d) Try.underlying63 rfl (by kernel_rfl)) HS ?_
            simp only [Act.put, List.setIfInBounds_toArray, List.set_cons_zero, List.set_cons_succ]
            refine hk_call (i := 13) (oi := ⟨some 35, .call _, _, _, _, _⟩) (by kernel_rfl) rfl (by kernel_rfl) (by first | rfl | kernel_rfl) (HTGK.out _) ?_
            rintro e w4 ⟨rfl, hb⟩
            have HS4 := HS.on hb
            refine ⟨_, rfl, HS4, ?_⟩
            simp only [Act.put, List.setIfInBounds_toArray, List.set_cons_zero, List.set_cons_succ]
            refine wpAnyH_done (by kernel_rfl) ?_ _
            go_wp2
            go_meet
            case rel => exact ⟨rfl, HS4⟩
          case rest =>
            obtain ⟨rfl, HZ⟩ := hcut
            clear HY
            by_cases hm : ks[k] = (xe, xa / 8)
            · have hd : decide (ks[k] = (xe, xa / 8)) = true := decide_eq_true hm
              rw [hd]
              have HYY2 := Lib.hid (HYY.out hm)
              clear HYY HYN hm hd
              go_wp2
              go_roundw
              case rel => exact ⟨k + 1, by omega, by first | rfl | go_num, HZ, (k : Int), rfl, .inr HYY2.out⟩
              case measure => simp [intOf]; omega
            · have hd : decide (ks[k] = (xe, xa / 8)) = false := decide_eq_false hm
              rw [hd]
              have HYN2 := Lib.hid (HYN.out hm)
              clear HYY HYN hm hd
              go_wp2
              go_roundw
              case rel => exact ⟨k + 1, by omega, by first | rfl | go_num, HZ, t, rfl, HYN2⟩
              case measure => simp [intOf]; omega
        · obtain rfl : k = us.length := by omega
          have hcase : (t = -1 ∧ Hid (ls2 = ls ++ [[(⟨xi, xa, xz, xd⟩, xe)]])) ∨ ∃ n : Nat, t = (n : Int) ∧ ∃ hn : n < us.length, ∃ hn2 : n < ls.length, Hid (ls2 = ls.set n (ls[n] ++ [(⟨xi, xa, xz, xd⟩, xe)])) := by
            rcases HT.out with ⟨h1, h2⟩ | ⟨n, h1, h2, h3, h4, h5⟩
            · refine .inl ⟨h1, HGN.out (fun hm => ?_)⟩
              obtain ⟨z, hz, e⟩ := List.getElem_of_mem hm
              exact h2 z hz (by have h7 := HUL.out; have h8 := HLK.out; omega) e
            · refine .inr ⟨n, h1, h2, by have := HUL.out; omega, ?_⟩
              show ls2 = _
              rw [HGO.out n h3 h4, HGE.out n (by have := HLK.out; omega) h3, h4]
          clear HT HGN HGO HMEM HGE HOT
          rcases hcase with ⟨rfl, HLS⟩ | ⟨n, rfl, hn, hn2, HLS⟩
          · -- a new one
            have c0' : wr.cell? ⟨q, 0, none⟩ = some (.slice (some ⟨g, 0, none⟩) D.l.length c) := HY.out.d.head.cell 0
            have HCSw := Lib.hid (HCS.out _ HY.out.d)
            have HBW := Lib.hid (BW.new (BW.new (Below.refl wr.heap.size wr) (.cells #[.int .i64 xi, .int .i64 xa, .int .i64 xz, .int .u64 xd, .int .i64 xe] 63)) (.cells #[.slice (some ⟨wr.heap.size, 0, none⟩) 1 1] 29))
            have HROW := Lib.hid ((HY.out.rw'.row.alloc (.cells #[.int .i64 xi, .int .i64 xa, .int .i64 xz, .int .u64 xd, .int .i64 xe] 63)).alloc (.cells #[.slice (some ⟨wr.heap.size, 0, none⟩) 1 1] 29))
            have HLOW := Lib.hid (Below.size HY.out.low)
            go_wp2_with (first
              | (with_reducible refine Hz.val_arm (o := ⟨some 46, .load _ _, _, _, _, _⟩) (by kernel_rfl) (Hz.ex_load_cells [.int .i64 xi, .int .i64 xa, .int .i64 xz, .int .u64 xd, .int .i64 xe] rfl rfl HCSw.out Try.underlying63 rfl (by kernel_rfl)) ?_)
              | (at_builtin; refine wpList_append_own _ rfl _ _ 64 rfl w.heap.size 29 iR (.slice none 0 0) 1 24 Try.underlying64 hiR hzR hsR hbR rfl (by decide) _ _ _ rfl HROW.out ⟨_, 0, none⟩ 1 1 [.slice (some ⟨wr.heap.size, 0, none⟩) 1 1] rfl rfl ?_ ?_ ?_ ?_ ?_ ?_))
            · exact World.news_of_block (by have h8 := Blk.new #[.slice (some ⟨wr.heap.size, 0, none⟩) 1 1] 29 (wr.alloc (.cells #[.int .i64 xi, .int .i64 xa, .int .i64 xz, .int .u64 xd, .int .i64 xe] 63)); rw [World.size_alloc] at h8; exact h8)
            · intro u hu; rw [List.mem_singleton] at hu; subst hu; rfl
            · unfold maxLen; omega
            · omega
            · have := HLOW.out; simp; omega
            intro v' w6 ho6 hg6 _
            have hb6 : BW w w6 := (BW.on HY.out.low HBW.out).grown hg6 (Below.size (BW.on HY.out.low HBW.out)) (fun g hg => (HROW.out.lt g hg).1)
            have HXN := Lib.hid (HY.out.rw'.grow (⟨xi, xa, xz, xd⟩, xe) HLOW.out hg6 ho6)
            have HXB := Lib.hid hb6
            clear ho6 hg6 hb6 HROW HBW
            go_wp2
            go_roundw
            case rel => exact ⟨i + 1, by omega, by first | rfl | go_num, _, HD.out _ HXB.out, HXB.out, by rw [HLS2.out, HLS.out]; exact HXN.out⟩
            case measure => simp [intOf]; omega
          · obtain ⟨gv, rfl, hcv⟩ := HY.out.at_ rfl hn
            have hrn := HY.out.rw'.each n hn hn2
            obtain ⟨Au, cu, hu⟩ := own_shape hrn
            have hnl : ls[n].length ≤ 1000 := HGL.out n hn2
            rw [hu] at hcv
            have HCV := Lib.hid hcv
            have HRU := Lib.hid (fun X (hX : EE D q (.slice (some ⟨g, 0, none⟩) D.l.length c) w ls (.slice (some ⟨gv, 0, none⟩) us.length cv) us X) => (show X.ownsRow w.heap.size 63 5 (.slice Au ls[n].length cu) ls[n].length (cellsS ls[n]) from by rw [← hu]; exact hX.rw'.each n hn hn2))
            have HPUT := Lib.hid (fun X Y g' c' (hX : EE D q (.slice (some ⟨g, 0, none⟩) D.l.length c) w ls (.slice (some ⟨gv, 0, none⟩) us.length cv) us X) (hg : (X.alloc (.cells #[.int .i64 xi, .int .i64 xa, .int .i64 xz, .int .u64 xd, .int .i64 xe] 63)).grownBy Y (Value.slice Au ls[n].length cu).ownBlock) (hat : (Value.slice Au ls[n].length cu).ownBlock = some g' ∨ g' = (X.alloc (.cells #[.int .i64 xi, .int .i64 xa, .int .i64 xz, .int .u64 xd, .int .i64 xe] 63)).heap.size) (ho : Y.ownsRow w.heap.size 63 5 (.slice (some ⟨g', 0, none⟩) (ls[n].length + 1) c') (ls[n].length + 1) (cellsS ls[n] ++ [.int .i64 xi, .int .i64 xa, .int .i64 xz, .int .u64 xd, .int .i64 xe])) =>
              (show BW w (Y.setCell ⟨gv, n, none⟩ (.slice (some ⟨g', 0, none⟩) (ls[n].length + 1) c')) ∧ RwAt w.heap.size ls2 (.slice (some ⟨gv, 0, none⟩) us.length cv) (us.set n (.slice (some ⟨g', 0, none⟩) (ls[n].length + 1) c')) (Y.setCell ⟨gv, n, none⟩ (.slice (some ⟨g', 0, none⟩) (ls[n].length + 1) c')) from by
                have h1 : BW w (X.alloc (.cells #[.int .i64 xi, .int .i64 xa, .int .i64 xz, .int .u64 xd, .int .i64 xe] 63)) := BW.new hX.low _
                have h2 : BW w Y := h1.grown hg (Below.size h1) (fun b hb => by rw [← hu] at hb; exact ((hX.rw'.each n hn hn2).lt b hb).1)
                refine ⟨Below.setCell h2 (hX.rw'.row.lt gv rfl).1 _, ?_⟩
                rw [HLS.out]
                exact hX.rw'.put rfl (⟨xi, xa, xz, xd⟩, xe) hn hn2 (by rw [hu]; exact hg) (by rw [hu]; exact hat) ho))
            have HKP := Lib.hid (fun X Y (hX : EE D q (.slice (some ⟨g, 0, none⟩) D.l.length c) w ls (.slice (some ⟨gv, 0, none⟩) us.length cv) us X) (hg : (X.alloc (.cells #[.int .i64 xi, .int .i64 xa, .int .i64 xz, .int .u64 xd, .int .i64 xe] 63)).grownBy Y (Value.slice Au ls[n].length cu).ownBlock) => (show Y.cell? ⟨gv, n, none⟩ = some (.slice Au ls[n].length cu) ∧ Y.frozen? ⟨gv, n, none⟩ = false from by
              have hr := hX.rw'.row.alloc (.cells #[.int .i64 xi, .int .i64 xa, .int .i64 xz, .int .u64 xd, .int .i64 xe] 63)
              have hr2 := hr.kept hg (by
                have hke := (hX.rw'.each n hn hn2).alloc (.cells #[.int .i64 xi, .int .i64 xa, .int .i64 xz, .int .u64 xd, .int .i64 xe] 63)
                rw [hu] at hke
                rcases rows_apart hr hke (by decide) with h1 | h1
                · exact .inl h1
                · exact .inr h1)
              refine ⟨?_, hr2.frozenAt n⟩
              rw [hr2.cellAt n (by omega), ← hu]
              exact List.getElem?_eq_getElem hn))
            clear hcv hrn hu HGL
            generalize ls[n].length = nu at *
            generalize hcl : cellsS ls[n] = cl at *
            clear hcl
            have hnI : (0 : Int) ≤ (n : Int) := by omega
            go_wp2_with (fail)
            refine wp_region_P (S := EE D q (.slice (some ⟨g, 0, none⟩) D.l.length c) w ls (.slice (some ⟨gv, 0, none⟩) us.length cv) us) (c := 14) (by kernel_rfl) ?_
            change wpAnyP _ _ _ _ _ _ _ _ _ (World.drew _)
            have HS := HY.out.on (Below.drew (Below.refl _ _))
            have HYD := Lib.hid HY.out.low
            clear HY
            generalize World.drew _ = w3 at *
            refine hp_any (i := 0) (oi := ⟨some 50, .move _, _, _, _, _⟩) (.slice (some ⟨gv, 0, none⟩) us.length cv) rfl (by kernel_rfl) (by kernel_rfl) (by kernel_rfl) (by decide) (fun _ _ _ h => h) (by kernel_rfl) (fun _ => rfl) HS ?_
            simp only [Act.put, List.setIfInBounds_toArray, List.set_cons_zero, List.set_cons_succ]
            refine hp_any (i := 1) (oi := ⟨some 51, .move _, _, _, _, _⟩) (.int .i64 (n : Int)) rfl (by kernel_rfl) (by kernel_rfl) (by kernel_rfl) (by decide) (fun _ _ _ h => h) (by kernel_rfl) (fun _ => rfl) HS ?_
            simp only [Act.put, List.setIfInBounds_toArray, List.set_cons_zero, List.set_cons_succ]
            refine hp_val (i := 2) (oi := ⟨some 52, .move _, _, _, _, _⟩) [4, 5, 14] (.slice (some ⟨gv, 0, none⟩) us.length cv) rfl (by kernel_rfl) (by kernel_rfl) (by kernel_rfl) (by kernel_rfl) (by kernel_rfl) rfl (fun _ _ _ h => h) (by kernel_rfl) (fun _ _ => rfl) HS ?_
            simp only [Act.put, List.setIfInBounds_toArray, List.set_cons_zero, List.set_cons_succ]
            refine hp_val (i := 3) (oi := ⟨some 53, .move _, _, _, _, _⟩) [4, 5, 14] (.int .i64 (n : Int)) rfl (by kernel_rfl) (by kernel_rfl) (by kernel_rfl) (by kernel_rfl) (by kernel_rfl) rfl (fun _ _ _ h => h) (by kernel_rfl) (fun _ _ => rfl) HS ?_
            simp only [Act.put, List.setIfInBounds_toArray, List.set_cons_zero, List.set_cons_succ]
            refine hp_val (i := 4) (oi := ⟨some 54, .indexAddr _ _ _, _, _, _, _⟩) [5, 14] (.pointer (some ⟨gv, n, none⟩)) rfl (by kernel_rfl) (by kernel_rfl) (by kernel_rfl) (by kernel_rfl) (by kernel_rfl) rfl (fun _ _ _ h => h) (by kernel_rfl) (fun _ _ => ex_index rfl rfl rfl rfl hn Try.underlying64 (by kernel_rfl)) HS ?_
            simp only [Act.put, List.setIfInBounds_toArray, List.set_cons_zero, List.set_cons_succ]
            refine hp_val (i := 5) (oi := ⟨some 55, .load _ _, _, _, _, _⟩) [14] (.slice Au nu cu) rfl (by kernel_rfl) (by kernel_rfl) (by kernel_rfl) (by kernel_rfl) (by kernel_rfl) rfl (fun _ _ _ h => h) (by kernel_rfl) (fun x hx => ex_load rfl rfl (HCV.out x hx).1 (by kernel_rfl)) HS ?_
            simp only [Act.put, List.setIfInBounds_toArray, List.set_cons_zero, List.set_cons_succ]
            refine hp_val (i := 6) (oi := ⟨some 56, .move _, _, _, _, _⟩) [7, 8, 9, 11, 12, 13, 14] (.pointer (some ⟨q, 0, none⟩)) rfl (by kernel_rfl) (by kernel_rfl) (by kernel_rfl) (by kernel_rfl) (by kernel_rfl) rfl (fun _ _ _ h => h) (by kernel_rfl) (fun _ _ => rfl) HS ?_
            simp only [Act.put, List.setIfInBounds_toArray, List.set_cons_zero, List.set_cons_succ]
            refine hp_val (i := 7) (oi := ⟨some 57, .nilCheck _, _, _, _, _⟩) [8, 9, 11, 12, 13, 14] (.pointer (some ⟨q, 0, none⟩)) rfl (by kernel_rfl) (by kernel_rfl) (by kernel_rfl) (by kernel_rfl) (by kernel_rfl) rfl (fun _ _ _ h => h) (by kernel_rfl) (fun _ _ => rfl) HS ?_
            simp only [Act.put, List.setIfInBounds_toArray, List.set_cons_zero, List.set_cons_succ]
            refine hp_val (i := 8) (oi := ⟨some 58, .fieldAddr _ _ _, _, _, _, _⟩) [9, 11, 12, 13, 14] (.pointer (some ⟨q, 0, none⟩)) rfl (by kernel_rfl) (by kernel_rfl) (by kernel_rfl) (by kernel_rfl) (by kernel_rfl) rfl (fun _ _ _ h => h) (by kernel_rfl) (fun _ _ => by kernel_rfl) HS ?_
            simp only [Act.put, List.setIfInBounds_toArray, List.set_cons_zero, List.set_cons_succ]
            refine hp_val (i := 9) (oi := ⟨some 59, .load _ _, _, _, _, _⟩) [11, 12, 13, 14] (.slice (some ⟨g, 0, none⟩) D.l.length c) rfl (by kernel_rfl) (by kernel_rfl) (by kernel_rfl) (by kernel_rfl) (by kernel_rfl) rfl (fun _ _ _ h => h) (by kernel_rfl) (fun x hx => ex_load rfl rfl (hx.d.head.cell 0) (by kernel_rfl)) HS ?_
            simp only [Act.put, List.setIfInBounds_toArray, List.set_cons_zero, List.set_cons_succ]
            refine hp_val (i := 10) (oi := ⟨some 60, .move _, _, _, _, _⟩) [11, 12, 13, 14] (.int .i64 (i : Int)) rfl (by kernel_rfl) (by kernel_rfl) (by kernel_rfl) (by kernel_rfl) (by kernel_rfl) rfl (fun _ _ _ h => h) (by kernel_rfl) (fun _ _ => rfl) HS ?_
            simp only [Act.put, List.setIfInBounds_toArray, List.set_cons_zero, List.set_cons_succ]
            refine hp_val (i := 11) (oi := ⟨some 61, .indexAddr _ _ _, _, _, _, _⟩) [12, 13, 14] (.pointer (some ⟨g, i * 5, none⟩)) rfl (by kernel_rfl) (by kernel_rfl) (by kernel_rfl) (by kernel_rfl) (by kernel_rfl) rfl (fun _ _ _ h => h) (by kernel_rfl) (fun _ _ => Hz.ex_indexp (z := 5) rfl rfl rfl rfl hlt Try.underlying29 (by kernel_rfl) (Nat.zero_add _)) HS ?_
            simp only [Act.put, List.setIfInBounds_toArray, List.set_cons_zero, List.set_cons_succ]
            refine hp_val (i := 12) (oi := ⟨some 62, .load _ _, _, _, _, _⟩) [13, 14] (.agg #[.int .i64 xi, .int .i64 xa, .int .i64 xz, .int .u64 xd, .int .i64 xe]) rfl (by kernel_rfl) (by kernel_rfl) (by kernel_rfl) (by kernel_rfl) (by kernel_rfl) rfl (fun _ _ _ h => h) (by kernel_rfl) (fun x hx => Hz.ex_load_cells [.int .i64 xi, .int .i64 xa, .int .i64 xz, .int .u64 xd, .int .i64 xe] rfl rfl (HCS.out x hx.d) Try.underlying63 rfl (by kernel_rfl)) HS ?_
            simp only [Act.put, List.setIfInBounds_toArray, List.set_cons_zero, List.set_cons_succ]
            refine hp_one (i := 13) (oi := ⟨some 63, .buildSlice _ _ _, _, _, _, _⟩) (by kernel_rfl) rfl (by kernel_rfl) ?_
            refine Go.wp_buildSlice 29 63 1 _ rfl #[.int .i64 xi, .int .i64 xa, .int .i64 xz, .int .u64 xd, .int .i64 xe] iS _ Try.underlying29 hiS hzS (by rw [hsS]; decide) (by rw [hsS]; decide) (by rw [hsS]; kernel_rfl) ?_
            have HS1 := Lib.hid (HS.on (BW.new (Below.refl w3.heap.size w3) (.cells #[.int .i64 xi, .int .i64 xa, .int .i64 xz, .int .u64 xd, .int .i64 xe] 63)))
            refine ⟨HS1.out, ?_⟩
            have hnew : (w3.alloc (.cells #[.int .i64 xi, .int .i64 xa, .int .i64 xz, .int .u64 xd, .int .i64 xe] 63)).heap[w3.heap.size]? = some (.cells #[.int .i64 xi, .int .i64 xa, .int .i64 xz, .int .u64 xd, .int .i64 xe] 63 (0, 0)) := Blk.new _ _ _
            simp only [Act.put, List.setIfInBounds_toArray, List.set_cons_zero, List.set_cons_succ]
            refine hp_last (i := 14) (oi := ⟨some 64, .call _, _, _, _, _⟩) (by kernel_rfl) rfl (by kernel_rfl) (by kernel_rfl) ?_
            refine wp_append_lies _ (.tmp 55) (.tmp 63) 29 rfl w.heap.size 63 iS _ 5 40 Try.underlying29 hiS hzS hsS hbS rfl (by decide) (.slice Au nu cu) nu cl rfl (HRU.out _ HS1.out) ⟨w3.heap.size, 0, none⟩ 1 1 [.int .i64 xi, .int .i64 xa, .int .i64 xz, .int .u64 xd, .int .i64 xe] rfl rfl (World.news_of_block hnew) (by intro u hu; simp at hu; rcases hu with rfl | rfl | rfl | rfl | rfl <;> rfl) (by decide) (by unfold maxLen; omega) (by omega) (by have := Below.size HS1.out.low; omega) _ rfl ?_
            intro g6 c6 w6 ho6 hg6 hat6 hlt6
            have HKP6 := HKP.out _ _ HS hg6
            have HXP := Lib.hid (HPUT.out _ _ _ _ HS hg6 hat6 ho6)
            clear hnew ho6 hg6 hat6 hlt6
            simp only [Act.put, List.setIfInBounds_toArray, List.set_cons_zero, List.set_cons_succ]
            refine hk_val (i := 15) (oi := ⟨some 65, .indexAddr _ _ _, _, _, _, _⟩) (.pointer (some ⟨gv, n, none⟩)) rfl (by kernel_rfl) (by kernel_rfl) (by kernel_rfl) (fun _ _ _ h => h) (by kernel_rfl) (fun _ _ => ex_index rfl rfl rfl rfl hn Try.underlying64 (by kernel_rfl)) trivial ?_
            simp only [Act.put, List.setIfInBounds_toArray, List.set_cons_zero, List.set_cons_succ]
            refine hk_one (i := 16) (oi := ⟨none, .store _ _ _, _, _, _, _⟩) (by kernel_rfl) rfl (by kernel_rfl) ?_
            refine wp_store_one (v := .slice (some ⟨g6, 0, none⟩) (nu + 1) c6) rfl rfl rfl rfl HKP6.1 HKP6.2 (by kernel_rfl) rfl rfl ?_
            refine ⟨trivial, ?_⟩
            clear HKP6
            generalize World.setCell _ _ _ = x9 at *
            refine wpAnyH_done (by kernel_rfl) ?_ _
            go_wp2
            go_roundw
            case rel => exact ⟨i + 1, by omega, by first | rfl | go_num, _, HD.out _ HXP.out.1, HXP.out.1, by rw [HLS2.out]; exact HXP.out.2⟩
            case measure => simp [intOf]; omega
    · obtain rfl : i = D.l.length := by omega
      have HZ : Hid (grpL (D.l.take D.l.length) = grpL D.l) := by show _ = _; rw [List.take_length]
      go_wp2
      go_ret
      exact ⟨_, us, rfl, by rw [← HZ.out]; exact HX.out.rw', HX.out.low⟩
end Go.Proofs.Ytcddgcchpmjdiaa
