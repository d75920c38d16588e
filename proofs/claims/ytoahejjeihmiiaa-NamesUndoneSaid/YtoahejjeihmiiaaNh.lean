/- The document's Value, Claim, Undo. -/
import Derived.Test.YtoahejjeihmiiaaNf
import Derived.Test.YtoahejjeihmiiaaNz
set_option maxRecDepth 100000
set_option linter.unusedVariables false
namespace Go.Proofs.Ytoahejjeihmiiaa
open Go.RowKit

theorem cel_val {s : Nst} (ok : NOk s) {c : Int} {D : Array Value} {t : Bool} (h : CelR s c D t) : (t = false ∧ D = #[.int .i64 0, .int .i64 0, .int .u64 0, .bool false] ∧ valN s c = (0, false)) ∨ (t = true ∧ ∃ a b v y, D = #[.int .i64 a, .int .i64 b, .int .u64 v, .bool y] ∧ valN s c = (v, y) ∧ (y = false → v = 0)) := by
  rcases h with ⟨rfl, h1, h2⟩ | ⟨rfl, k, hk, rfl, a, b, h1⟩
  · refine .inl ⟨rfl, h1, ?_⟩
    unfold valN
    split
    · rename_i hc
      have hy : s.y c.toNat = false := by
        cases hy : s.y c.toNat with
        | false => rfl
        | true => exact absurd (show ((c.toNat : Nat) : Int) = c by omega) (h2 _ (ok.fr _ hy))
      rw [hy, ok.yn _ hy]
    · rfl
  · have hlt := ok.own_lt hk
    refine .inr ⟨rfl, a, b, s.v k, s.y k, h1, ?_, ok.yn k⟩
    unfold valN
    rw [if_pos (by omega), Int.toNat_natCast]
set_option maxHeartbeats 2000000 in
theorem rvalue15_c {s : Nst} {p : Npl} {w : World} (h : RnAt s p w) (ok : NOk s) (c : Int) : Calls Try.prog 24 #[.pointer (some ⟨p.g, 0, none⟩), .int .i64 c] w fun e w' => e = .returned (.tuple #[.int .u64 (valN s c).1, .bool (valN s c).2]) ∧ BW w w' := by
  have HC := Lib.hid (rcell15_c h ok c)
  generalize p.g = g at *
  have HK : Hid (∀ D t, CelR s c D t → _) := fun D t hd => cel_val (D := D) (t := t) ok hd
  generalize valN s c = vv at *
  obtain ⟨v0, y0⟩ := vv
  dsimp only
  clear h ok
  go_enter Try.func24, Try.ntmps24
  go_upto_region 2 with (first
    | (go_at_call 26; refine HC.out.mono ?_; rintro e w1 ⟨⟨D, t, rfl, hD⟩, hb⟩; obtain (⟨rfl, rfl, hv⟩ | ⟨rfl, a1, a2, a3, a4, rfl, hv, hy⟩) := HK.out D t hD))
  all_goals clear hD
  · obtain ⟨rfl, rfl⟩ : v0 = 0 ∧ y0 = false := by cases hv; exact ⟨rfl, rfl⟩
    have HB2 := Lib.hid (BW.on hb (BW.new (Below.refl _ w1) (.cells #[.int .i64 0, .int .i64 0, .int .u64 0, .bool false] 33)))
    clear hv hb
    go_wp2
    go_ret2
    exact ⟨rfl, HB2.out⟩
  · obtain ⟨rfl, rfl⟩ : v0 = a3 ∧ y0 = a4 := by cases hv; exact ⟨rfl, rfl⟩
    have HB2 := Lib.hid (BW.on hb (BW.new (Below.refl _ w1) (.cells #[.int .i64 a1, .int .i64 a2, .int .u64 v0, .bool y0] 33)))
    clear hv hb
    cases y0 with
    | false =>
      obtain rfl := hy rfl
      clear hy
      go_wp2
      go_ret2
      exact ⟨rfl, HB2.out⟩
    | true =>
      clear hy
      go_wp2
      go_ret2
      exact ⟨rfl, HB2.out⟩
theorem RnAt.addRow {s : Nst} {p : Npl} {X Y : World} (h : RnAt s p X) (ok : NOk s) {r c : Nat} (hc : c ∉ ownN s) {v' : Value} (hr : RowO 33 4 v' (s.l.length + 1) (cellsNe s.v s.y s.l ++ [.int .i64 (r : Int), .int .i64 (c : Int), .int .u64 0, .bool false]) Y) (hg : X.grownBy Y p.vl.ownBlock) (hat : v'.ownBlock = p.vl.ownBlock ∨ ∃ g, v'.ownBlock = some g ∧ X.heap.size ≤ g) :
    UpT (RnAt (addN s r c)) p X (Y.setCell ⟨p.g, 128, none⟩ v') := by
  obtain ⟨a, b, d⟩ := Two.newRow (C' := dCells (addN s r c)) (i := 128) h hr hg hat (fun u => dCells_setL s p.vl u)
  refine ⟨⟨p.g, v'⟩, ?_, rfl, b, d⟩
  have hy : s.y c = false := by
    cases hy : s.y c with
    | false => rfl
    | true => exact absurd (ok.fr _ hy) hc
  unfold RnAt
  rw [show (addN s r c).l = s.l ++ [(r, c)] from rfl, show (addN s r c).v = s.v from rfl, show (addN s r c).y = s.y from rfl, List.length_append, cellsNe_snoc]
  unfold neCells
  rw [hy, ok.yn _ hy]
  exact a
set_option maxHeartbeats 4000000 in
theorem rclaim15_c {s : Nst} {p : Npl} {w : World} (h : RnAt s p w) (ok : NOk s) (r : Int) : Calls Try.prog 11 #[.pointer (some ⟨p.g, 0, none⟩), .int .i64 r] w fun e w' => e = .returned (.tuple #[.int .i64 (claN s r).2.1, .bool (claN s r).2.2]) ∧ UpT (RnAt (claN s r).1) p w w' := by
  by_cases hr : 0 < r ∧ r < 32
  · obtain ⟨q, rfl⟩ : ∃ q : Nat, r = (q : Int) := ⟨r.toNat, by omega⟩
    obtain ⟨g, hgp⟩ : ∃ g, p.g = g := ⟨_, rfl⟩
    have HH := Lib.hid (fun x (hx : BW w x) => (Two.on h hx : RnAt s p x))
    have HC := Lib.hid (fun x (hx : BW w x) (c : Int) => (hgp ▸ rcell15_c (HH.out x hx) ok c : Calls Try.prog 26 #[.pointer (some ⟨g, 0, none⟩), .int .i64 c] x fun e w' => RetCel s c x e w'))
    have HOK := Lib.hid ok
    have hlen := ok.len
    have d1 : decide ((q : Int) < 1) = false := decide_eq_false (by omega)
    have d2 : decide ((31 : Int) < (q : Int)) = false := decide_eq_false (by omega)
    obtain ⟨A, cap, hv, h1, h2, _⟩ := h.row.shape
    have HUP := Lib.hid (fun x (hx : BW w x) => UpT.same (R := RnAt s) (HH.out x hx) (Fr.of p.foot hx))
    have HF1 : Hid (freN s = none → claN s (q : Int) = (s, 0, false)) := fun hf => by unfold claN; rw [if_pos hr, hf]
    have HF2 : Hid (∀ k : Nat, freN s = some k → claN s (q : Int) = (addN s q k, (k : Int), true)) := fun k hf => by unfold claN; rw [if_pos hr, hf]; rfl
    obtain ⟨iw, hiw, hwz, hws, hwb⟩ := inf_partsN (P := Try.prog) (e := 33) (z := .agg #[.int .i64 0, .int .i64 0, .int .u64 0, .bool false]) (n := 4) (b := 32) (by kernel_rfl)
    have HGP := Lib.hid hgp
    have HV := Lib.hid hv
    rw [hgp]
    clear h hr ok hgp hv
    go_enter Try.func11, Try.ntmps11
    go_wp2
    go_loopw [6, 7, 8] (fun i _ _ wx => ∃ k : Nat, k ≤ 44 ∧ i = .int .i64 (k : Int) ∧ Hid (BW w wx ∧ ∀ d, d < k → d ∈ ownN s)) (fun i _ _ _ => 44 - (intOf i).toNat)
    case atStart => exact ⟨0, by omega, rfl, Below.refl _ _, fun d hd => by omega⟩
    case round =>
      obtain ⟨k, hk, rfl, HX⟩ := hrel
      by_cases hlt : k < 44
      · have hkI : (k : Int) < 44 := by omega
        have HCK := Lib.hid (HC.out _ HX.out.1 (k : Int))
        go_upto_region 7 with (first
          | (go_at_call 26; refine HCK.out.mono ?_; rintro e w1 ⟨⟨D, t, rfl, hD⟩, hb⟩; obtain (⟨rfl, rfl, hn⟩ | ⟨rfl, c, hc, hck, a1, a2, rfl⟩) := hD))
        · -- a free one
          have hfree : k ∉ ownN s := fun hin => hn k hin rfl
          have HF := Lib.hid (HF2.out k (fre_is hlt hfree HX.out.2))
          have HB1 := BW.on (BW.on HX.out.1 hb) (BW.new (Below.refl _ w1) (.cells #[.int .i64 0, .int .i64 0, .int .u64 0, .bool false] 33))
          clear hb hn
          generalize World.alloc w1 _ = w2 at *
          have HX2 := HH.out _ HB1
          have q2 := RnAt.head_cell HX2
          rw [HGP.out, HV.out] at q2
          have hb3 : BW w (w2.alloc (.cells #[.int .i64 (q : Int), .int .i64 (k : Int), .int .u64 0, .bool false] 33)) := BW.on HB1 (BW.new (Below.refl _ _) _)
          have HX3 := HH.out _ hb3
          have HR3 := HX3.row
          rw [HV.out] at HR3
          clear HX2
          go_wp2_with (first
            | (refine build_lit rfl 35 33 1 _ rfl (.agg #[.int .i64 0, .int .i64 0, .int .u64 0, .bool false]) 4 Try.underlying35 (by kernel_rfl) (by decide) (by decide) #[.int .i64 (q : Int), .int .i64 (k : Int), .int .u64 0, .bool false] (by kernel_rfl) rfl _ rfl ?_)
            | (at_builtin; refine wpList_append_O rfl (.tmp 31) (.tmp 35) 35 rfl 33 iw _ 4 32 Try.underlying35 hiw hwz hws hwb rfl (by decide) (.slice A s.l.length cap) s.l.length (cellsNe s.v s.y s.l) rfl HR3 ⟨w2.heap.size, 0, none⟩ 1 1 [.int .i64 (q : Int), .int .i64 (k : Int), .int .u64 0, .bool false] rfl rfl (World.news_of_block (cs := #[.int .i64 (q : Int), .int .i64 (k : Int), .int .u64 0, .bool false]) (Blk.new #[.int .i64 (q : Int), .int .i64 (k : Int), .int .u64 0, .bool false] 33 w2)) (four_one _ _ _ _) (by decide) (by unfold maxLen; omega) (by omega) ?_; intro v' w4 hr4 hg4 hat4; (rw [← HV.out] at hg4 hat4); (have HU := RnAt.addRow HX3 HOK.out hfree hr4 hg4 hat4); (have hbk := (hg4.block p.g HX3.head.lt (fun he => HX3.apart he.symm)).trans HX3.head); (have q4 := (Blk.cell hbk 128).trans (dCells_l s p.vl)); (have f4 := Blk.free hbk 128); (obtain ⟨A4, c4, rfl, _⟩ := hr4.shape); (rw [HGP.out] at HU q4 f4); (rw [HV.out] at q4); (have HU := Lib.hid (UpT.ahead hb3 HU)); (clear hr4 hg4 hat4 hbk HX3 HR3 q2)))
          go_ret2
          rw [HF.out]
          exact ⟨rfl, HU.out⟩
        · -- one that somebody has
          have HN : Hid (∀ d, d < k + 1 → d ∈ ownN s) := fun d hd => by
            by_cases hdk : d = k
            · rw [hdk]; have : c = k := by omega
              rw [← this]; exact hc
            · exact HX.out.2 d (by omega)
          have HB2 := Lib.hid (BW.on (BW.on HX.out.1 hb) (BW.new (Below.refl _ w1) (.cells #[.int .i64 a1, .int .i64 a2, .int .u64 (s.v c), .bool (s.y c)] 33)))
          clear hb hc hck
          go_wp2
          go_roundw
          case rel => exact ⟨k + 1, by omega, by first | rfl | go_num, HB2.out, HN.out⟩
          case measure => simp [intOf]; omega
      · obtain rfl : k = 44 := by omega
        have HF := Lib.hid (HF1.out (fre_no HX.out.2))
        go_wp2
        go_ret2
        rw [HF.out]
        exact ⟨rfl, HUP.out _ HX.out.1⟩
  · have hc : claN s r = (s, 0, false) := by unfold claN; rw [if_neg hr]
    rw [hc]
    dsimp only
    have hup : Hid (UpT (RnAt s) p w w) := UpT.same h (Fr.refl _ _)
    generalize p.g = g at *
    by_cases h0 : r < 1
    · clear hr hc h
      go_enter Try.func11, Try.ntmps11
      go_wp2
      go_ret2
      exact ⟨rfl, hup.out⟩
    · have h1 : (31 : Int) < r := by omega
      clear hr hc h
      go_enter Try.func11, Try.ntmps11
      go_wp2
      go_ret2
      exact ⟨rfl, hup.out⟩
theorem ex_sub1 {P : Program} {o : Oper} {a : Act} {w : World} {t u : TypeId} {x : Operand} {m n : Int} (ho : o.op = .binOp .sub t x (.const (.int .i64 1)) u) (hx : a.eval x = .int .i64 m) (h : m - 1 = n) (hb : -9223372036854775808 ≤ n ∧ n ≤ 9223372036854775807) :
    (execOp a.eval o).run P w = .ok (.value (.int .i64 n)) w := by
  have e : IntKind.i64.wrap (m - 1) = n := by rw [IntKind.wrap_i64]; omega
  have hc : a.eval (.const (.int .i64 1)) = .int .i64 1 := rfl
  unfold execOp
  simp only [ho, hx, hc, eqGuard_at_int]
  simp [go_sem, e]
set_option maxHeartbeats 4000000 in
theorem rundo15_c {s : Nst} {p : Npl} {w : World} (h : RnAt s p w) (ok : NOk s) : Calls Try.prog 17 #[.pointer (some ⟨p.g, 0, none⟩)] w fun e w' => e = .returned (.bool (undOk s)) ∧ UpT (RnAt (undN s)) p w w' := by
  obtain ⟨g, hg⟩ : ∃ g, p.g = g := ⟨_, rfl⟩
  have HUP := Lib.hid (fun t x (hx : BW w x) (y : World) (hu : UpT (RnAt t) p x y) => UpT.ahead hx hu)
  by_cases hl : s.l = []
  · have e1 : undOk s = false := by unfold undOk; rw [hl]; rfl
    have e2 : undN s = s := by unfold undN; rw [hl]; rfl
    obtain ⟨A, cap, hv, h1, h2, _⟩ := h.row.shape
    have q := h.head_cell
    rw [hv, hg] at q
    have hn : s.l.length = 0 := by rw [hl]; rfl
    rw [hn] at q
    rw [e1, e2, hg]
    have HS := Lib.hid h
    clear e1 e2 hn hl h hv h1 h2
    go_enter Try.func17, Try.ntmps17
    go_wp2
    go_ret
    exact ⟨rfl, UpT.same HS.out (Fr.refl _ _)⟩
  · obtain ⟨l, ⟨k1, k2⟩, hls⟩ := snoc_of hl
    have hll : s.l.length = l.length + 1 := by rw [hls, List.length_append]; rfl
    obtain ⟨b, off, cap, hv, hcap, hbg⟩ := h.begins (by omega)
    have hlen := ok.len
    have HQ := Lib.hid (fun x (hx : RnAt s p x) => (hg ▸ hv ▸ hx.head_cell : x.cell? ⟨g, 128, none⟩ = some (.slice (some ⟨b, off, none⟩) s.l.length cap)))
    have HFZ := Lib.hid (fun x (hx : RnAt s p x) => (hg ▸ hx.head.free 128 : x.frozen? ⟨g, 128, none⟩ = false))
    rw [hll] at HQ hlen
    have e1 : undOk s = true := by unfold undOk; rw [hls]; simp
    rw [e1, hg, undN_snoc hls]
    have HL := Lib.hid hls
    have hlI : (((l.length + 1 : Nat) : Int) == 0) = false := by simp; omega
    have hlJ : ((l.length + 1 : Nat) : Int) - 1 = (l.length : Int) := by omega
    have HOK := Lib.hid ok
    have q0 := HQ.out _ h
    have HS : RnAt s p w.drew := Two.on h (Below.drew (Below.refl _ _))
    have HBD : Hid (BW w w.drew) := Below.drew (Below.refl _ _)
    have HCAP : l.length + 1 ≤ cap := by omega
    clear e1 hl hls hcap h ok
    go_enter Try.func17, Try.ntmps17
    go_upto_region 3 with (fail)
    clear q0
    refine wp_region_P (S := RnAt s p) (c := 14) (by kernel_rfl) ?_
    change wpAnyP _ _ _ _ _ _ _ _ _ (World.drew _)
    generalize hdr : World.drew w = w3 at *
    clear hdr
    refine hp_val (i := 0) (oi := ⟨some 9, .move _, _, _, _, _⟩) [14] (.pointer (some ⟨g, 0, none⟩)) rfl (by kernel_rfl) (by kernel_rfl) (by kernel_rfl) (by kernel_rfl) (by kernel_rfl) rfl (fun _ _ _ h => h) (by kernel_rfl) (fun _ _ => rfl) HS ?_
    simp only [Act.put, List.setIfInBounds_toArray, List.set_cons_zero, List.set_cons_succ]
    refine hp_val (i := 1) (oi := ⟨some 10, .move _, _, _, _, _⟩) [14] (.pointer (some ⟨g, 0, none⟩)) rfl (by kernel_rfl) (by kernel_rfl) (by kernel_rfl) (by kernel_rfl) (by kernel_rfl) rfl (fun _ _ _ h => h) (by kernel_rfl) (fun _ _ => rfl) HS ?_
    simp only [Act.put, List.setIfInBounds_toArray, List.set_cons_zero, List.set_cons_succ]
    refine hp_val (i := 2) (oi := ⟨some 11, .nilCheck _, _, _, _, _⟩) [14] (.pointer (some ⟨g, 0, none⟩)) rfl (by kernel_rfl) (by kernel_rfl) (by kernel_rfl) (by kernel_rfl) (by kernel_rfl) rfl (fun _ _ _ h => h) (by kernel_rfl) (fun _ _ => rfl) HS ?_
    simp only [Act.put, List.setIfInBounds_toArray, List.set_cons_zero, List.set_cons_succ]
    refine hp_val (i := 3) (oi := ⟨some 12, .fieldAddr _ _ _, _, _, _, _⟩) [14] (.pointer (some ⟨g, 128, none⟩)) rfl (by kernel_rfl) (by kernel_rfl) (by kernel_rfl) (by kernel_rfl) (by kernel_rfl) rfl (fun _ _ _ h => h) (by kernel_rfl) (fun _ _ => by kernel_rfl) HS ?_
    simp only [Act.put, List.setIfInBounds_toArray, List.set_cons_zero, List.set_cons_succ]
    refine hp_val (i := 4) (oi := ⟨some 13, .load _ _, _, _, _, _⟩) [14] (.slice (some ⟨b, off, none⟩) (l.length + 1) cap) rfl (by kernel_rfl) (by kernel_rfl) (by kernel_rfl) (by kernel_rfl) (by kernel_rfl) rfl (fun _ _ _ h => h) (by kernel_rfl) (fun x hx => ex_load rfl rfl (HQ.out x hx) (by kernel_rfl)) HS ?_
    simp only [Act.put, List.setIfInBounds_toArray, List.set_cons_zero, List.set_cons_succ]
    refine hp_val (i := 5) (oi := ⟨some 14, .move _, _, _, _, _⟩) [14] (.pointer (some ⟨g, 0, none⟩)) rfl (by kernel_rfl) (by kernel_rfl) (by kernel_rfl) (by kernel_rfl) (by kernel_rfl) rfl (fun _ _ _ h => h) (by kernel_rfl) (fun _ _ => rfl) HS ?_
    simp only [Act.put, List.setIfInBounds_toArray, List.set_cons_zero, List.set_cons_succ]
    refine hp_val (i := 6) (oi := ⟨some 15, .nilCheck _, _, _, _, _⟩) [14] (.pointer (some ⟨g, 0, none⟩)) rfl (by kernel_rfl) (by kernel_rfl) (by kernel_rfl) (by kernel_rfl) (by kernel_rfl) rfl (fun _ _ _ h => h) (by kernel_rfl) (fun _ _ => rfl) HS ?_
    simp only [Act.put, List.setIfInBounds_toArray, List.set_cons_zero, List.set_cons_succ]
    refine hp_val (i := 7) (oi := ⟨some 16, .fieldAddr _ _ _, _, _, _, _⟩) [14] (.pointer (some ⟨g, 128, none⟩)) rfl (by kernel_rfl) (by kernel_rfl) (by kernel_rfl) (by kernel_rfl) (by kernel_rfl) rfl (fun _ _ _ h => h) (by kernel_rfl) (fun _ _ => by kernel_rfl) HS ?_
    simp only [Act.put, List.setIfInBounds_toArray, List.set_cons_zero, List.set_cons_succ]
    refine hp_val (i := 8) (oi := ⟨some 17, .load _ _, _, _, _, _⟩) [14] (.slice (some ⟨b, off, none⟩) (l.length + 1) cap) rfl (by kernel_rfl) (by kernel_rfl) (by kernel_rfl) (by kernel_rfl) (by kernel_rfl) rfl (fun _ _ _ h => h) (by kernel_rfl) (fun x hx => ex_load rfl rfl (HQ.out x hx) (by kernel_rfl)) HS ?_
    simp only [Act.put, List.setIfInBounds_toArray, List.set_cons_zero, List.set_cons_succ]
    refine hp_val (i := 9) (oi := ⟨some 18, .call _, _, _, _, _⟩) [14] (.int .i64 ((l.length + 1 : Nat) : Int)) rfl (by kernel_rfl) (by kernel_rfl) (by kernel_rfl) (by kernel_rfl) (by kernel_rfl) rfl (fun _ _ _ h => h) (by kernel_rfl) (fun _ _ => by kernel_rfl) HS ?_
    simp only [Act.put, List.setIfInBounds_toArray, List.set_cons_zero, List.set_cons_succ]
    refine hp_val (i := 10) (oi := ⟨some 19, .binOp _ _ _ _ _, _, _, _, _⟩) [14] (.int .i64 (l.length : Int)) rfl (by kernel_rfl) (by kernel_rfl) (by kernel_rfl) (by kernel_rfl) (by kernel_rfl) rfl (fun _ _ _ h => h) (by kernel_rfl) (fun _ _ => ex_sub1 rfl rfl hlJ (by omega)) HS ?_
    simp only [Act.put, List.setIfInBounds_toArray, List.set_cons_zero, List.set_cons_succ]
    refine hp_val (i := 11) (oi := ⟨some 20, .slice _ _ _ _ _, _, _, _, _⟩) [14] (.slice (some ⟨b, off, none⟩) l.length cap) rfl (by kernel_rfl) (by kernel_rfl) (by kernel_rfl) (by kernel_rfl) (by kernel_rfl) rfl (fun _ _ _ h => h) (by kernel_rfl) (fun _ _ => Hz.ex_to (p := l.length) (z := 4) rfl rfl rfl (by omega) Try.underlying35 (by kernel_rfl)) HS ?_
    simp only [Act.put, List.setIfInBounds_toArray, List.set_cons_zero, List.set_cons_succ]
    refine hp_val (i := 12) (oi := ⟨some 21, .nilCheck _, _, _, _, _⟩) [13, 14] (.pointer (some ⟨g, 0, none⟩)) rfl (by kernel_rfl) (by kernel_rfl) (by kernel_rfl) (by kernel_rfl) (by kernel_rfl) rfl (fun _ _ _ h => h) (by kernel_rfl) (fun _ _ => rfl) HS ?_
    simp only [Act.put, List.setIfInBounds_toArray, List.set_cons_zero, List.set_cons_succ]
    refine hp_val (i := 13) (oi := ⟨some 22, .fieldAddr _ _ _, _, _, _, _⟩) [14] (.pointer (some ⟨g, 128, none⟩)) rfl (by kernel_rfl) (by kernel_rfl) (by kernel_rfl) (by kernel_rfl) (by kernel_rfl) rfl (fun _ _ _ h => h) (by kernel_rfl) (fun _ _ => by kernel_rfl) HS ?_
    simp only [Act.put, List.setIfInBounds_toArray, List.set_cons_zero, List.set_cons_succ]
    refine hp_last (i := 14) (oi := ⟨none, .store _ _ _, _, _, _, _⟩) (by kernel_rfl) rfl (by kernel_rfl) (by kernel_rfl) ?_
    refine wp_store_one (v := .slice (some ⟨b, off, none⟩) l.length cap) rfl rfl rfl rfl (HQ.out _ HS) (HFZ.out _ HS) (by kernel_rfl) rfl rfl ?_
    refine wpAnyH_done (by kernel_rfl) ?_ _
    have HR := HS.row
    rw [hv] at HR
    have HT := RowO.init (m := l.length) (c' := cap) HR (by omega) (Nat.le_refl _) (by obtain ⟨A, c, hv2, h1, _⟩ := HS.row.shape; rw [hv] at hv2; cases hv2; omega)
    rw [HL.out, cellsNe_snoc, List.take_left' (cellsNe_len _ _ l)] at HT
    have hob : (Value.slice (some ⟨b, off, none⟩) l.length cap).ownBlock = p.vl.ownBlock := by rw [hv]; rfl
    have hsk : ∀ r, r < 32 → s.s r ≠ k2 := fun r hr => HOK.out.sc r hr (k1, k2) (by rw [HL.out]; simp)
    have hnl : ∀ x ∈ l, x.2 ≠ k2 := fun x hx he => by
      have hcn := HOK.out.cn
      rw [HL.out, List.map_append, List.nodup_append] at hcn
      exact hcn.2.2 x.2 (List.mem_map.2 ⟨x, hx, rfl⟩) k2 (by simp) he
    have hde : ∀ u, (dCells s p.vl).setIfInBounds 128 u = dCells (undK s k2 l) u := fun u => by
      rw [dCells_setL]
      exact dCells_congr (s := s) (t := undK s k2 l) (fun r hr => ⟨rfl, (updN_other _ _ _ (hsk r hr)).symm⟩) u
    have hro : cellsNe s.v s.y l = cellsNe (undK s k2 l).v (undK s k2 l).y l := cellsNe_congr fun x hx => ⟨(updN_other _ _ _ (hnl x hx)).symm, (updN_other _ _ _ (hnl x hx)).symm⟩
    rw [hro] at HT
    obtain ⟨t6, _, u6⟩ := Two.newRow (C' := dCells (undK s k2 l)) (i := 128) HS HT (grown_refl _ _) (.inl hob) hde
    rw [hg] at t6 u6
    have HX6 := Lib.hid t6
    have HU6 := Lib.hid u6
    clear HT HR t6 u6 hro hde hsk hnl
    go_wp2
    go_ret
    refine ⟨rfl, HUP.out _ _ HBD.out _ ⟨⟨g, .slice (some ⟨b, off, none⟩) l.length cap⟩, HX6.out, hg.symm, ?_, HU6.out⟩⟩
    intro i hi
    left
    simp only [Npl.foot, List.mem_cons, Option.mem_toList] at hi ⊢
    rw [hob] at hi
    rw [hg]
    exact hi
end Go.Proofs.Ytoahejjeihmiiaa
