/- The document's Set, Retire. -/
import Derived.Test.YtoahejjeihmiiaaNh
set_option maxRecDepth 100000
set_option linter.unusedVariables false
namespace Go.Proofs.Ytoahejjeihmiiaa
open Go.RowKit

theorem NOk.cell_inj {s : Nst} (ok : NOk s) {i j : Nat} (hi : i < s.l.length) (hj : j < s.l.length) (h : s.l[i].2 = s.l[j].2) : i = j := by
  have hi' : i < (s.l.map (·.2)).length := by rw [List.length_map]; exact hi
  have hj' : j < (s.l.map (·.2)).length := by rw [List.length_map]; exact hj
  refine (List.getElem_inj (h₀ := hi') (h₁ := hj') ok.cn).1 ?_
  rw [List.getElem_map, List.getElem_map]
  exact h
theorem cellsNe_put {v : Nat → Int} {y : Nat → Bool} {l : List (Nat × Nat)} {k c : Nat} (hk : k < l.length) (hc : l[k].2 = c) (hn : ∀ j (hj : j < l.length), j ≠ k → l[j].2 ≠ c) (x : Int) : ((cellsNe v y l).set (k * 4 + 2) (.int .u64 x)).set (k * 4 + 3) (.bool true) = cellsNe (updN v c x) (updN y c true) l := by
  have hl := cellsNe_len v y l
  refine List.ext_getElem? fun i => ?_
  by_cases hi : i < l.length * 4
  · obtain ⟨j, m, hm, rfl⟩ : ∃ j m, m < 4 ∧ i = j * 4 + m := ⟨i / 4, i % 4, by omega, by omega⟩
    have hj : j < l.length := by omega
    rw [cellsNe_at hj hm]
    by_cases hjk : j = k
    · subst hjk
      match m, hm with
      | 0, _ =>
        rw [List.getElem?_set_ne (by omega), List.getElem?_set_ne (by omega), cellsNe_at hj (by omega)]
        rfl
      | 1, _ =>
        rw [List.getElem?_set_ne (by omega), List.getElem?_set_ne (by omega), cellsNe_at hj (by omega)]
        rfl
      | 2, _ =>
        rw [List.getElem?_set_ne (by omega), List.getElem?_set_self (by omega)]
        show some (Value.int .u64 x) = some (Value.int .u64 (updN v c x l[j].2))
        rw [hc, updN_same]
      | 3, _ =>
        rw [List.getElem?_set_self (by rw [List.length_set]; omega)]
        show some (Value.bool true) = some (Value.bool (updN y c true l[j].2))
        rw [hc, updN_same]
    · rw [List.getElem?_set_ne (by omega), List.getElem?_set_ne (by omega), cellsNe_at hj hm]
      unfold neCells
      rw [updN_other _ _ _ (hn j hj hjk), updN_other _ _ _ (hn j hj hjk)]
  · rw [List.getElem?_eq_none (by rw [List.length_set, List.length_set]; omega), List.getElem?_eq_none (by rw [cellsNe_len]; omega)]
set_option maxHeartbeats 4000000 in
theorem rset15_c {s : Nst} {p : Npl} {w : World} (h : RnAt s p w) (ok : NOk s) (c v : Int) : Calls Try.prog 13 #[.pointer (some ⟨p.g, 0, none⟩), .int .i64 c, .int .u64 v] w fun e w' => e = .returned (.bool (hasN s c)) ∧ UpT (RnAt (setN s c v)) p w w' := by
  obtain ⟨g, hg⟩ : ∃ g, p.g = g := ⟨_, rfl⟩
  obtain ⟨A, cap, hv, h1, h2, _⟩ := h.row.shape
  have hlen := ok.len
  have q := h.head_cell
  rw [hv, hg] at q
  have HA := Lib.hid (h.rrd hv)
  unfold RRd at HA
  have HS := Lib.hid h
  have HOK := Lib.hid ok
  have HV := Lib.hid hv
  have HG := Lib.hid hg
  have HN : Hid ((∀ j, j < s.l.length → ((claAt s j).2 : Int) ≠ c) → hasN s c = false ∧ setN s c v = s) := fun hn => by
    have : hasN s c = false := by
      cases ht : hasN s c with
      | false => rfl
      | true =>
        obtain ⟨x, hx, e⟩ := (has_iff s c).1 ht
        obtain ⟨j, hj, rfl⟩ := List.getElem_of_mem hx
        exact absurd e (by have := hn j hj; rwa [claAt_eq hj] at this)
    exact ⟨this, by unfold setN; rw [if_neg (by rw [this]; decide)]⟩
  have HY : Hid (∀ k (hk : k < s.l.length), ((claAt s k).2 : Int) = c → hasN s c = true ∧ setN s c v = putN s (claAt s k).2 v) := fun k hk e => by
    rw [claAt_eq hk] at e ⊢
    have : hasN s c = true := (has_iff s c).2 ⟨_, List.getElem_mem hk, e⟩
    refine ⟨this, ?_⟩
    unfold setN
    rw [if_pos this, ← e]
    rfl
  have HPUT : Hid (∀ k (hk : k < s.l.length) b off, A = some ⟨b, off, none⟩ → UpT (RnAt (putN s (claAt s k).2 v)) p w ((w.setCell ⟨b, off + k * 4 + 2, none⟩ (.int .u64 v)).setCell ⟨b, off + k * 4 + 3, none⟩ (.bool true)) ∧ (w.setCell ⟨b, off + k * 4 + 2, none⟩ (.int .u64 v)).cell? ⟨g, 128, none⟩ = some (.slice A s.l.length cap) ∧ (w.setCell ⟨b, off + k * 4 + 2, none⟩ (.int .u64 v)).cell? ⟨b, off + k * 4 + 3, none⟩ = some (.bool (s.y (claAt s k).2)) ∧ (∀ i, w.frozen? ⟨b, i, none⟩ = false) ∧ ∀ i, (w.setCell ⟨b, off + k * 4 + 2, none⟩ (.int .u64 v)).frozen? ⟨b, i, none⟩ = false) := fun k hk b off hA => by
    subst hA
    rw [claAt_eq hk]
    have hr := h.row
    rw [hv] at hr
    have hbg : b ≠ p.g := fun e => h.apart (by rw [hv, ← e]; rfl)
    have hk1 : k * 4 + 2 < s.l.length * 4 := by omega
    have hk2 : k * 4 + 3 < s.l.length * 4 := by omega
    have r1 := hr.set hk1 (.int .u64 v)
    have r2 := r1.set hk2 (.bool true)
    rw [← Nat.add_assoc] at r1
    rw [← Nat.add_assoc, ← Nat.add_assoc] at r2
    rw [cellsNe_put hk rfl (fun j hj hne he => hne (ok.cell_inj hj hk he)) v] at r2
    have b1 : Blk (dCells s p.vl) 37 p.g (w.setCell ⟨b, off + k * 4 + 2, none⟩ (.int .u64 v)) := h.head.other (a := ⟨b, off + k * 4 + 2, none⟩) (Ne.symm hbg) _
    have b2 := b1.other (a := ⟨b, off + k * 4 + 3, none⟩) (Ne.symm hbg) (.bool true)
    have hde : dCells s p.vl = dCells (putN s s.l[k].2 v) p.vl := dCells_congr (s := s) (t := putN s s.l[k].2 v) (fun r hr => ⟨rfl, (updN_other _ _ _ (ok.sc r hr _ (List.getElem_mem hk))).symm⟩) p.vl
    rw [hde] at b2
    have hbf : b ∈ p.foot := foot_row (by rw [hv]; rfl)
    refine ⟨UpT.same ⟨b2, by rw [hv]; exact r2, h.apart⟩ (((Fr.refl p.foot w).setCell (.inl hbf) _).setCell (.inl hbf) _), ?_, ?_, fun i => hr.free i, fun i => r1.free i⟩
    · have := (b1.cell 128).trans (dCells_l s p.vl)
      rw [hg, hv] at this
      exact this
    · have c3 := (h.row_cell hv hk).2.2.2
      obtain ⟨b', off', cap', e', _, _, _, hcc⟩ := RowO.begins (show RowO _ 4 (.slice (some ⟨b, off, none⟩) s.l.length cap) _ _ _ from r1) (by omega)
      cases e'
      have := hcc (k * 4 + 3) (.bool (s.y (claAt s k).2)) (by rw [List.getElem?_set_ne (by omega), cellsNe_at hk (by omega), claAt_eq hk]; rfl)
      rw [← Nat.add_assoc, claAt_eq hk] at this
      exact this
  obtain ⟨L, hL⟩ : ∃ L, s.l.length = L := ⟨_, rfl⟩
  rw [hg]
  rw [hL] at q hlen HN HY HPUT HA
  have HL := Lib.hid hL
  clear h ok hv hg h1 h2
  go_enter Try.func13, Try.ntmps13
  go_wp2
  go_loop [7] (fun i => ∃ k : Nat, k ≤ L ∧ i = .int .i64 (k : Int) ∧ Hid (∀ j, j < k → ((claAt s j).2 : Int) ≠ c)) (fun i => L - (intOf i).toNat)
  case atStart => exact ⟨0, by omega, rfl, fun j hj => by omega⟩
  case round =>
    obtain ⟨k, hk, rfl, HJ⟩ := hrel
    by_cases hlt : k < L
    · have hltI : (k : Int) < (L : Int) := by omega
      obtain ⟨b, off, rfl, hcs⟩ := HA.out (by omega)
      obtain ⟨c0, c1, c2, c3⟩ := hcs k hlt
      clear hcs
      by_cases hc : ((claAt s k).2 : Int) = c
      · obtain ⟨y1, y2⟩ := HY.out k hlt hc
        have HY1 := Lib.hid y1
        have HY2 := Lib.hid y2
        obtain ⟨u1, q1, u3, f1, f2⟩ := HPUT.out k hlt b off rfl
        have HU := Lib.hid u1
        have ex : (((claAt s k).2 : Int) == c) = true := by simpa using hc
        have fz1 := f1 (off + k * 4 + 2)
        have fz2 := f2 (off + k * 4 + 3)
        clear hc y1 y2 u1 f1 f2 c0 c3
        generalize s.v (claAt s k).2 = x2 at *
        generalize s.y (claAt s k).2 = x3 at *
        generalize ((claAt s k).2 : Int) = x1 at *
        go_wp2
        go_ret
        rw [HY1.out, HY2.out]
        exact ⟨rfl, HU.out⟩
      · have ex : (((claAt s k).2 : Int) == c) = false := by simpa using hc
        have HN2 : Hid (∀ j, j < k + 1 → ((claAt s j).2 : Int) ≠ c) := fun j hj => by
          by_cases hjk : j = k
          · rw [hjk]; exact hc
          · exact HJ.out j (by omega)
        clear hc c0 c2 c3
        generalize ((claAt s k).2 : Int) = x1 at *
        go_wp2
        go_round
        case rel => exact ⟨k + 1, by omega, by first | rfl | go_num, HN2⟩
        case measure => simp [intOf]; omega
    · obtain rfl : k = L := by omega
      obtain ⟨n1, n2⟩ := HN.out HJ.out
      have HN1 := Lib.hid n1
      have HN2 := Lib.hid n2
      clear n1 n2
      go_wp2
      go_ret
      rw [HN1.out, HN2.out]
      exact ⟨rfl, UpT.same HS.out (Fr.refl _ _)⟩
theorem entry_store {P : Program} {w : World} {s t : Nst} {vl : Value} {g r c : Nat} {T ty : TypeId} {v : Int} (hb : Blk (dCells s vl) T g w) (hz : (P.info? ty).map (·.size) = some 4) (hr : r < 32) (hs : t.s r = c) (hv : t.v c = v) (ho : ∀ q, q < 32 → q ≠ r → t.s q = s.s q ∧ t.v (t.s q) = s.v (s.s q)) :
    ∃ w', (Instr.storeAt ty (.pointer (some ⟨g, 4 * r, none⟩)) (.agg #[.int .i64 (r : Int), .int .i64 (c : Int), .int .u64 v, .bool true])).run P w = .ok () w' ∧ Blk (dCells t vl) T g w' ∧ Fr [g] w w' := by
  obtain ⟨w', e, b, kk⟩ := Hz.part (P := P) hb (4 * r) [.int .i64 (r : Int), .int .i64 (c : Int), .int .u64 v, .bool true] (by rw [dCells, rowK_size]; show 4 * r + 4 ≤ 129; omega) (by intro v hv; simp at hv; rcases hv with rfl | rfl | rfl | rfl <;> rfl)
  rw [dCells_entry hr hs hv ho vl] at b
  exact ⟨w', Hz.run_store_part (P := P) hz e, b, (Fr.refl [g] w).grown kk (by intro i hi; left; simpa using hi.symm)⟩
set_option maxHeartbeats 4000000 in
theorem rretire15_c {s : Nst} {p : Npl} {w : World} (h : RnAt s p w) (ok : NOk s) : Calls Try.prog 15 #[.pointer (some ⟨p.g, 0, none⟩)] w fun e w' => e = .returned (.bool (retOk s)) ∧ UpT (RnAt (retN s)) p w w' := by
  obtain ⟨g, hg⟩ : ∃ g, p.g = g := ⟨_, rfl⟩
  have HUP := Lib.hid (fun t x (hx : BW w x) (y : World) (hu : UpT (RnAt t) p x y) => UpT.ahead hx hu)
  cases hl : s.l with
  | nil =>
    have e1 : retOk s = false := by unfold retOk; rw [hl]
    have e2 : retN s = s := by unfold retN; rw [hl]
    obtain ⟨A, cap, hv, h1, h2, _⟩ := h.row.shape
    have q := h.head_cell
    rw [hv, hg] at q
    have hn : s.l.length = 0 := by rw [hl]; rfl
    rw [hn] at q
    rw [e1, e2, hg]
    have HS := Lib.hid h
    clear h e1 e2 hn hl hv h1 h2
    go_enter Try.func15, Try.ntmps15
    go_wp2
    go_ret
    exact ⟨rfl, UpT.same HS.out (Fr.refl _ _)⟩
  | cons k l =>
    have hll : s.l.length = l.length + 1 := by rw [hl]; rfl
    obtain ⟨b, off, cap, hv, hcap, hbg⟩ := h.begins (by omega)
    obtain ⟨k1, k2⟩ := k
    have hk0 : claAt s 0 = (k1, k2) := by unfold claAt; rw [hl]; rfl
    obtain ⟨hkl1, hkl2, hkl3⟩ := ok.cl (k1, k2) (by rw [hl]; exact List.mem_cons_self)
    have hlen := ok.len
    have HC := Lib.hid (fun x (hx : RnAt s p x) => hx.row_cell hv (j := 0) (by omega))
    simp only [hk0, Nat.zero_mul, Nat.add_zero] at HC
    have HQ := Lib.hid (fun x (hx : RnAt s p x) => (hg ▸ hv ▸ hx.head_cell : x.cell? ⟨g, 128, none⟩ = some (.slice (some ⟨b, off, none⟩) s.l.length cap)))
    rw [hll] at HQ hlen
    have e1 : retOk s = s.y k2 := by unfold retOk; rw [hl]
    have HE2 : Hid (retN s = if s.y k2 = true then retK s (k1, k2) l else s) := by show _ = _; unfold retN; rw [hl]
    rw [e1, hg]
    have hlI : (((l.length + 1 : Nat) : Int) == 0) = false := by simp; omega
    have hlJ : (0 : Int) < ((l.length + 1 : Nat) : Int) := by omega
    have HL := Lib.hid hl
    have HOK := Lib.hid ok
    have HCAP : l.length + 1 ≤ cap := by omega
    have HS0 := Lib.hid h
    obtain ⟨c0, c1, c2, c3⟩ := HC.out _ h
    have q := HQ.out _ h
    clear e1 hl hcap h ok
    cases hy : s.y k2 with
    | false =>
      have HE3 := Lib.hid HE2.out
      rw [hy] at HE3 c3
      simp only [Bool.false_eq_true, if_false] at HE3
      go_enter Try.func15, Try.ntmps15
      go_wp2
      go_ret
      rw [HE3.out]
      exact ⟨rfl, UpT.same HS0.out (Fr.refl _ _)⟩
    | true =>
      have HE3 := Lib.hid HE2.out
      rw [hy] at HE3 c3
      simp only [if_true] at HE3
      go_enter Try.func15, Try.ntmps15
      go_upto_region 3 with (fail)
      clear c0 c1 c2 c3 q
      have HY : Hid (∀ x, RnAt s p x → x.cell? ⟨b, off + 3, none⟩ = some (.bool true)) := fun x hx => by rw [← hy]; exact (HC.out x hx).2.2.2
      have HS : RnAt s p w.drew := Two.on HS0.out (Below.drew (Below.refl _ _))
      have HBD : Hid (BW w w.drew) := Below.drew (Below.refl _ _)
      clear HS0
      refine wp_region_P (S := RnAt s p) (c := 17) (by kernel_rfl) ?_
      change wpAnyP _ _ _ _ _ _ _ _ _ (World.drew _)
      generalize hdr : World.drew w = w3 at *
      clear hdr
      refine hp_val (i := 0) (oi := ⟨some 19, .move _, _, _, _, _⟩) [17] (.pointer (some ⟨g, 0, none⟩)) rfl (by kernel_rfl) (by kernel_rfl) (by kernel_rfl) (by kernel_rfl) (by kernel_rfl) rfl (fun _ _ _ h => h) (by kernel_rfl) (fun _ _ => rfl) HS ?_
      simp only [Act.put, List.setIfInBounds_toArray, List.set_cons_zero, List.set_cons_succ]
      refine hp_val (i := 1) (oi := ⟨some 20, .move _, _, _, _, _⟩) [17] (.pointer (some ⟨g, 0, none⟩)) rfl (by kernel_rfl) (by kernel_rfl) (by kernel_rfl) (by kernel_rfl) (by kernel_rfl) rfl (fun _ _ _ h => h) (by kernel_rfl) (fun _ _ => rfl) HS ?_
      simp only [Act.put, List.setIfInBounds_toArray, List.set_cons_zero, List.set_cons_succ]
      refine hp_val (i := 2) (oi := ⟨some 21, .nilCheck _, _, _, _, _⟩) [17] (.pointer (some ⟨g, 0, none⟩)) rfl (by kernel_rfl) (by kernel_rfl) (by kernel_rfl) (by kernel_rfl) (by kernel_rfl) rfl (fun _ _ _ h => h) (by kernel_rfl) (fun _ _ => rfl) HS ?_
      simp only [Act.put, List.setIfInBounds_toArray, List.set_cons_zero, List.set_cons_succ]
      refine hp_val (i := 3) (oi := ⟨some 22, .fieldAddr _ _ _, _, _, _, _⟩) [17] (.pointer (some ⟨g, 128, none⟩)) rfl (by kernel_rfl) (by kernel_rfl) (by kernel_rfl) (by kernel_rfl) (by kernel_rfl) rfl (fun _ _ _ h => h) (by kernel_rfl) (fun _ _ => by kernel_rfl) HS ?_
      simp only [Act.put, List.setIfInBounds_toArray, List.set_cons_zero, List.set_cons_succ]
      refine hp_val (i := 4) (oi := ⟨some 23, .load _ _, _, _, _, _⟩) [17] (.slice (some ⟨b, off, none⟩) (l.length + 1) cap) rfl (by kernel_rfl) (by kernel_rfl) (by kernel_rfl) (by kernel_rfl) (by kernel_rfl) rfl (fun _ _ _ h => h) (by kernel_rfl) (fun x hx => ex_load rfl rfl (HQ.out x hx) (by kernel_rfl)) HS ?_
      simp only [Act.put, List.setIfInBounds_toArray, List.set_cons_zero, List.set_cons_succ]
      refine hp_val (i := 5) (oi := ⟨some 24, .indexAddr _ _ _, _, _, _, _⟩) [17] (.pointer (some ⟨b, off, none⟩)) rfl (by kernel_rfl) (by kernel_rfl) (by kernel_rfl) (by kernel_rfl) (by kernel_rfl) rfl (fun _ _ _ h => h) (by kernel_rfl) (fun _ _ => Hz.ex_indexp (j := 0) (z := 4) rfl rfl rfl rfl (by omega) Try.underlying35 (by kernel_rfl) (by omega)) HS ?_
      simp only [Act.put, List.setIfInBounds_toArray, List.set_cons_zero, List.set_cons_succ]
      refine hp_val (i := 6) (oi := ⟨some 25, .fieldAddr _ _ _, _, _, _, _⟩) [17] (.pointer (some ⟨b, off, none⟩)) rfl (by kernel_rfl) (by kernel_rfl) (by kernel_rfl) (by kernel_rfl) (by kernel_rfl) rfl (fun _ _ _ h => h) (by kernel_rfl) (fun _ _ => by kernel_rfl) HS ?_
      simp only [Act.put, List.setIfInBounds_toArray, List.set_cons_zero, List.set_cons_succ]
      refine hp_val (i := 7) (oi := ⟨some 26, .load _ _, _, _, _, _⟩) [17] (.int .i64 (k1 : Int)) rfl (by kernel_rfl) (by kernel_rfl) (by kernel_rfl) (by kernel_rfl) (by kernel_rfl) rfl (fun _ _ _ h => h) (by kernel_rfl) (fun x hx => ex_load rfl rfl (HC.out x hx).1 (by kernel_rfl)) HS ?_
      simp only [Act.put, List.setIfInBounds_toArray, List.set_cons_zero, List.set_cons_succ]
      refine hp_val (i := 8) (oi := ⟨some 27, .move _, _, _, _, _⟩) [17] (.pointer (some ⟨g, 0, none⟩)) rfl (by kernel_rfl) (by kernel_rfl) (by kernel_rfl) (by kernel_rfl) (by kernel_rfl) rfl (fun _ _ _ h => h) (by kernel_rfl) (fun _ _ => rfl) HS ?_
      simp only [Act.put, List.setIfInBounds_toArray, List.set_cons_zero, List.set_cons_succ]
      refine hp_val (i := 9) (oi := ⟨some 28, .nilCheck _, _, _, _, _⟩) [17] (.pointer (some ⟨g, 0, none⟩)) rfl (by kernel_rfl) (by kernel_rfl) (by kernel_rfl) (by kernel_rfl) (by kernel_rfl) rfl (fun _ _ _ h => h) (by kernel_rfl) (fun _ _ => rfl) HS ?_
      simp only [Act.put, List.setIfInBounds_toArray, List.set_cons_zero, List.set_cons_succ]
      refine hp_val (i := 10) (oi := ⟨some 29, .fieldAddr _ _ _, _, _, _, _⟩) [17] (.pointer (some ⟨g, 128, none⟩)) rfl (by kernel_rfl) (by kernel_rfl) (by kernel_rfl) (by kernel_rfl) (by kernel_rfl) rfl (fun _ _ _ h => h) (by kernel_rfl) (fun _ _ => by kernel_rfl) HS ?_
      simp only [Act.put, List.setIfInBounds_toArray, List.set_cons_zero, List.set_cons_succ]
      refine hp_val (i := 11) (oi := ⟨some 30, .load _ _, _, _, _, _⟩) [17] (.slice (some ⟨b, off, none⟩) (l.length + 1) cap) rfl (by kernel_rfl) (by kernel_rfl) (by kernel_rfl) (by kernel_rfl) (by kernel_rfl) rfl (fun _ _ _ h => h) (by kernel_rfl) (fun x hx => ex_load rfl rfl (HQ.out x hx) (by kernel_rfl)) HS ?_
      simp only [Act.put, List.setIfInBounds_toArray, List.set_cons_zero, List.set_cons_succ]
      refine hp_val (i := 12) (oi := ⟨some 31, .indexAddr _ _ _, _, _, _, _⟩) [17] (.pointer (some ⟨b, off, none⟩)) rfl (by kernel_rfl) (by kernel_rfl) (by kernel_rfl) (by kernel_rfl) (by kernel_rfl) rfl (fun _ _ _ h => h) (by kernel_rfl) (fun _ _ => Hz.ex_indexp (j := 0) (z := 4) rfl rfl rfl rfl (by omega) Try.underlying35 (by kernel_rfl) (by omega)) HS ?_
      simp only [Act.put, List.setIfInBounds_toArray, List.set_cons_zero, List.set_cons_succ]
      refine hp_val (i := 13) (oi := ⟨some 32, .load _ _, _, _, _, _⟩) [17] (.agg #[.int .i64 (k1 : Int), .int .i64 (k2 : Int), .int .u64 (s.v k2), .bool true]) rfl (by kernel_rfl) (by kernel_rfl) (by kernel_rfl) (by kernel_rfl) (by kernel_rfl) rfl (fun _ _ _ h => h) (by kernel_rfl) (fun x hx => Hz.ex_load_cells [.int .i64 (k1 : Int), .int .i64 (k2 : Int), .int .u64 (s.v k2), .bool true] rfl rfl (four_at (HC.out x hx).1 (HC.out x hx).2.1 (HC.out x hx).2.2.1 (HY.out x hx)) Try.underlying33 rfl (by kernel_rfl)) HS ?_
      simp only [Act.put, List.setIfInBounds_toArray, List.set_cons_zero, List.set_cons_succ]
      refine hp_val (i := 14) (oi := ⟨some 33, .nilCheck _, _, _, _, _⟩) [15, 16, 17] (.pointer (some ⟨g, 0, none⟩)) rfl (by kernel_rfl) (by kernel_rfl) (by kernel_rfl) (by kernel_rfl) (by kernel_rfl) rfl (fun _ _ _ h => h) (by kernel_rfl) (fun _ _ => rfl) HS ?_
      simp only [Act.put, List.setIfInBounds_toArray, List.set_cons_zero, List.set_cons_succ]
      refine hp_val (i := 15) (oi := ⟨some 34, .fieldAddr _ _ _, _, _, _, _⟩) [16, 17] (.pointer (some ⟨g, 0, none⟩)) rfl (by kernel_rfl) (by kernel_rfl) (by kernel_rfl) (by kernel_rfl) (by kernel_rfl) rfl (fun _ _ _ h => h) (by kernel_rfl) (fun _ _ => by kernel_rfl) HS ?_
      simp only [Act.put, List.setIfInBounds_toArray, List.set_cons_zero, List.set_cons_succ]
      refine hp_val (i := 16) (oi := ⟨some 35, .indexAddr _ _ _, _, _, _, _⟩) [17] (.pointer (some ⟨g, 4 * k1, none⟩)) rfl (by kernel_rfl) (by kernel_rfl) (by kernel_rfl) (by kernel_rfl) (by kernel_rfl) rfl (fun _ _ _ h => h) (by kernel_rfl) (fun _ _ => Hz.ex_indexA (z := 4) rfl rfl rfl rfl hkl2 Try.underlying34 (by kernel_rfl) (by omega)) HS ?_
      simp only [Act.put, List.setIfInBounds_toArray, List.set_cons_zero, List.set_cons_succ]
      refine hp_last (i := 17) (oi := ⟨none, .store _ _ _, _, _, _, _⟩) (by kernel_rfl) rfl (by kernel_rfl) (by kernel_rfl) ?_
      obtain ⟨w5, e5, b5, k5⟩ := entry_store (P := Try.prog) (ty := 33) (s := s) (t := retK s (k1, k2) l) (v := s.v k2) (hg ▸ HS.head) (by kernel_rfl) hkl2 (updN_same _ _ _) (updN_other _ _ _ (fun e => HOK.out.sc k1 hkl2 (k1, k2) (by rw [HL.out]; exact List.mem_cons_self) e.symm)) (fun q hq hne => by have e1 : updN s.s k1 k2 q = s.s q := updN_other _ _ _ hne; refine ⟨e1, ?_⟩; show updN s.v (s.s k1) 0 (updN s.s k1 k2 q) = _; rw [e1]; exact updN_other _ _ _ (fun e => hne (HOK.out.si q k1 hq hkl2 e)))
      refine wp_store_cell rfl rfl rfl rfl e5 ?_
      refine wpAnyH_done (by kernel_rfl) ?_ _
      have HX5 := Two.turn (C' := dCells (retK s (k1, k2) l)) HS (by rw [hg]; exact b5) (by rw [hg]; exact k5)
      have q5 : w5.cell? ⟨g, 128, none⟩ = some p.vl := (b5.cell 128).trans (dCells_l _ _)
      rw [hv, hll] at q5
      have f5 : w5.frozen? ⟨g, 128, none⟩ = false := b5.free 128
      have HR5 := HX5.row
      rw [hv, hll, HL.out] at HR5
      have HT := RowO.tail (xs := neCells s.v s.y (k1, k2)) (ys := cellsNe s.v s.y l) HR5 rfl
      have hro : cellsNe s.v s.y l = cellsNe (retK s (k1, k2) l).v (retK s (k1, k2) l).y l := cellsNe_congr fun x hx => by
        have : x.2 ≠ s.s k1 := fun e => HOK.out.sc k1 hkl2 x (by rw [HL.out]; exact List.mem_cons_of_mem _ hx) e.symm
        exact ⟨(updN_other _ _ _ this).symm, (updN_other _ _ _ this).symm⟩
      rw [hro] at HT
      obtain ⟨A', hA'⟩ : ∃ A' : Option Addr, some (if cap = 1 then (⟨b, off, none⟩ : Addr) else ⟨b, off + 1 * 4, none⟩) = A' := ⟨_, rfl⟩
      have hob : (Value.slice A' l.length (cap - 1)).ownBlock = p.vl.ownBlock := by rw [← hA', hv]; by_cases h1 : cap = 1 <;> simp [h1, Value.ownBlock]
      rw [hA'] at HT
      obtain ⟨t6, _, u6⟩ := Two.newRow (C' := dCells (retK s (k1, k2) l)) (i := 128) HX5 HT (grown_refl _ _) (.inl hob) (fun u => dCells_setL _ p.vl u)
      rw [hg] at t6 u6
      have HX6 := Lib.hid t6
      have HU6 := Lib.hid u6
      have HEX : ((l.length + 1 : Nat) : Int) = (l.length : Int) + 1 := by omega
      clear HT HR5 t6 u6 hro
      go_wp2_with (first
        | (refine Hz.val_arm (o := ⟨some 41, .slice _ _ _ _ _, _, _, _, _⟩) (v := .slice A' l.length (cap - 1)) (by kernel_rfl) (ex_fromO (p := 1) rfl rfl rfl (by omega) HCAP Try.underlying35 (by kernel_rfl) (by rw [hA']; rfl)) ?_))
      go_ret
      rw [HE3.out]
      refine ⟨rfl, HUP.out _ _ HBD.out _ ⟨⟨g, .slice A' l.length (cap - 1)⟩, HX6.out, hg.symm, ?_, ?_⟩⟩
      · intro i hi
        left
        simp only [Npl.foot, List.mem_cons, Option.mem_toList] at hi ⊢
        rw [hob] at hi
        rw [hg]
        exact hi
      · exact (k5.wide (by intro i hi; rw [List.mem_singleton.1 hi, ← hg]; exact foot_head p)).trans HU6.out (fun i hi => .inl hi)
end Go.Proofs.Ytoahejjeihmiiaa
