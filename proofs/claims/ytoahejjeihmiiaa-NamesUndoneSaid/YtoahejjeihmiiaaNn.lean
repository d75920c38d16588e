/- NamesLast. -/
import Derived.Test.YtoahejjeihmiiaaNm
set_option maxRecDepth 100000
set_option linter.unusedVariables false
namespace Go.Proofs.Ytoahejjeihmiiaa
open Go.RowKit

/-- m claims stand, all ready, and each register's cell has the value that was set last. -/
structure Lst (s : Nst) (X : Nat → Int) (m : Nat) : Prop where
  len : s.l.length = m
  rdy : ∀ k ∈ s.l, s.y k.2 = true
  val : ∀ r, r < 32 → s.v (lkN s r) = X r
theorem lst_new (x : Nat → Int) : Lst (newN x) x 0 := ⟨rfl, fun k hk => (by cases hk), fun r hr => by
  show (if r < 32 then x r else 0) = x r
  rw [if_pos hr]⟩
theorem lst_put {s : Nst} (ok : NOk s) {X : Nat → Int} {m r c : Nat} (h : Lst s X m) (hr : r < 32) (hc : c ∉ ownN s) (v : Int) : hasN (addN s r c) (c : Int) = true ∧ Lst (setN (addN s r c) (c : Int) v) (updN X r v) (m + 1) := by
  have hh : hasN (addN s r c) (c : Int) = true := (has_iff _ _).2 ⟨(r, c), by unfold addN; simp, rfl⟩
  refine ⟨hh, ?_⟩
  have e : setN (addN s r c) (c : Int) v = putN (addN s r c) c v := by unfold setN; rw [if_pos hh, Int.toNat_natCast]
  rw [e]
  refine ⟨?_, fun k hk => ?_, fun q hq => ?_⟩
  · show (s.l ++ [(r, c)]).length = _
    rw [List.length_append, h.len]
    rfl
  · have hk : k ∈ s.l ++ [(r, c)] := hk
    show updN s.y c true k.2 = true
    unfold updN
    split
    · rfl
    · rename_i hne
      rcases List.mem_append.1 hk with hk | hk
      · exact h.rdy k hk
      · rw [List.mem_singleton] at hk
        subst hk
        exact absurd rfl hne
  · have e2 : lkN (putN (addN s r c) c v) q = if r = q then c else lkN s q := lk_add s r c q
    rw [e2]
    show updN s.v c v _ = updN X r v q
    by_cases hq2 : r = q
    · rw [if_pos hq2, updN_same, ← hq2, updN_same]
    · rw [if_neg hq2, updN_other _ _ _ (fun e3 => hc (by rw [← e3]; exact lk_own s hq)), updN_other _ _ _ (fun e3 => hq2 e3.symm)]
      exact h.val q hq
theorem lst_ret {s : Nst} (ok : NOk s) {X : Nat → Int} {m : Nat} (h : Lst s X (m + 1)) : retOk s = true ∧ Lst (retN s) X m := by
  cases hl : s.l with
  | nil => have := h.len; rw [hl] at this; cases this
  | cons k l =>
    have hk : k ∈ s.l := by rw [hl]; exact List.mem_cons_self
    have hy := h.rdy k hk
    obtain ⟨k0, k1, k2⟩ := ok.cl k hk
    have hmem : ∀ x ∈ l, x ∈ s.l := fun x hx => by rw [hl]; exact List.mem_cons_of_mem _ hx
    have e : retN s = retK s k l := by unfold retN; rw [hl]; exact if_pos hy
    have eo : retOk s = true := by unfold retOk; rw [hl]; exact hy
    refine ⟨eo, ?_⟩
    rw [e]
    have hlen := h.len
    rw [hl] at hlen
    refine ⟨Nat.succ.inj hlen, fun x hx => ?_, fun q hq => ?_⟩
    · show updN s.y (s.s k.1) false x.2 = true
      rw [updN_other _ _ _ (fun e3 => ok.sc k.1 k1 x (hmem x hx) e3.symm)]
      exact h.rdy x (hmem x hx)
    · have e2 : lkN (retK s k l) q = lkN s q := by
        show List.foldl _ (updN s.s k.1 k.2 q) l = List.foldl _ (s.s q) s.l
        rw [hl, List.foldl_cons]
        congr 1
        unfold updN
        by_cases hq2 : q = k.1
        · rw [if_pos hq2, if_pos hq2.symm]
        · rw [if_neg hq2, if_neg (fun e3 => hq2 e3.symm)]
      have hown := lk_own (retK s k l) hq
      have hne : lkN (retK s k l) q ≠ s.s k.1 := by
        intro e3
        rw [e3] at hown
        rcases (mem_own _ _).1 hown with ⟨r, hr, e4⟩ | ⟨x, hx, e4⟩
        · have e4 : updN s.s k.1 k.2 r = s.s k.1 := e4
          unfold updN at e4
          split at e4
          · exact ok.sc k.1 k1 k hk e4.symm
          · rename_i hr2; exact hr2 (ok.si r k.1 hr k1 e4)
        · exact ok.sc k.1 k1 x (hmem x hx) e4.symm
      show updN s.v (s.s k.1) 0 (lkN (retK s k l) q) = X q
      rw [updN_other _ _ _ hne, e2]
      exact h.val q hq
theorem lst_end {s : Nst} {X : Nat → Int} (h : Lst s X 0) : xCells (valsN s) = xCells X := by
  have hl : s.l = [] := List.eq_nil_of_length_eq_zero h.len
  refine rowK_congr fun k hk => ?_
  have := h.val k hk
  unfold lkN at this
  rw [hl] at this
  unfold valsN valsK
  rw [if_pos hk, ← this]
  rfl
theorem ex_rem32q {P : Program} {o : Oper} {a : Act} {w : World} {t u : TypeId} {x : Operand} {z q : Int} (ho : o.op = .binOp .rem t x (.const (.int .i64 32)) u) (hx : a.eval x = .int .i64 z) (h0 : 0 ≤ z) (h1 : z ≤ 255) (hq : z % 32 = q) :
    (execOp a.eval o).run P w = .ok (.value (.int .i64 q)) w := by rw [← hq]; exact ex_rem32 ho hx h0 h1
set_option maxHeartbeats 16000000 in
theorem last15_walk (x : Nat → Int) (A1 : Option Addr) (c1 : Nat) (l1 : List Int) (A2 : Option Addr) (c2 : Nat) (l2 : List Int) (W : World) (h1 : l1.length ≤ 9223372036854775807) (h2 : l2.length ≤ 9223372036854775807) (hw1 : ∀ z ∈ l1, 0 ≤ z ∧ z ≤ 255) (r1 : Rd W W.heap.size A1 (l1.map (Value.int .u8))) (r2 : Rd W W.heap.size A2 (l2.map (Value.int .u64))) :
    Calls Try.prog 6 #[.agg (xCells x), .slice A1 l1.length c1, .slice A2 l2.length c2] W fun e w' => e = .returned (.bool true) ∧ BW W w' := by
  have HR1 := Lib.hid r1
  have HR2 := Lib.hid r2
  have HW1 := Lib.hid hw1
  have HB0 := Lib.hid (BW.new (Below.refl _ W) (.cells (xCells x) 23))
  have K0 := Lib.hid (Blk.new (xCells x) 23 W)
  have HAL := Lib.hid alive15_any
  have HAF : True := trivial
  clear r1 r2 hw1
  go_enter Try.func6, Try.ntmps6
  go_upto_region 1 with (fail)
  obtain ⟨B, hB⟩ : ∃ B, W.heap.size = B := ⟨_, rfl⟩
  have HWB : Hid (W.heap.size ≤ B) := by show _ ≤ _; omega
  try rw [hB] at K0
  try rw [hB]
  clear hB
  generalize World.alloc W _ = w0 at *
  go_upto_region 3 with (first
    | (go_at_call 7; (have HFIRST := HAF); clear HAF; refine (HAL.out _).mono ?_; rintro e w1 ⟨rfl, hb⟩; have HB1 := Lib.hid (BW.on HB0.out hb); have K1 := K0.out.on hb; clear hb))
  have HKM : Hid (∀ b ∈ [((xCells x, 23, B) : Kb)], Blk b.1 b.2.1 b.2.2 w1) := fun b hb => by rw [List.mem_singleton.1 hb]; exact K1
  go_upto_region 4 with (first
    | (with_reducible refine Hz.val_arm (o := ⟨some 15, .load _ _, _, _, _, _⟩) (by kernel_rfl) (Hz.ex_load_all 23 (.tmp 3) rfl rfl K1 Try.underlying23 rfl (by rw [xCells_size]; kernel_rfl)) ?_)
    | (go_at_call 8; refine (ng_new x W _ HB1.out _ HKM.out).mono ?_; rintro e w2 ⟨g, rfl, hng, _, _⟩))
  have hbk : Blk (xCells x) 23 B w2 := hng.blk List.mem_cons_self
  have q0 := (hbk.cell 0).trans (xCells_at x (by omega))
  have f0 := hbk.free 0
  have hb0 := hbk.set 0 (.int .u64 0)
  rw [xCells_set x (by omega)] at hb0
  have HN2 := Lib.hid (hng.put HWB.out (fun x hx => by cases hx) hb0 ((Fr.refl [B] w2).setCell (.inl (by simp)) _))
  have HL0 := Lib.hid (lst_new (updN x 0 0))
  clear K1 K0 hng hbk hb0 HKM
  go_upto_region 5 with (fail)
  clear q0 f0
  generalize w2.setCell _ _ = w3 at *
  generalize updN x 0 0 = X0 at *
  go_wp2
  go_loopw [8, 9, 10, 11, 12] (fun j i _ _ _ wx => ∃ k m : Nat, k ≤ l1.length ∧ k ≤ 60 ∧ i = .int .i64 (k : Int) ∧ j = .int .i64 (m : Int) ∧ m < 12 ∧ Hid (∃ s X, Lst s X m ∧ NG W s g [(xCells X, 23, B)] wx)) (fun _ i _ _ _ _ => 60 - (intOf i).toNat)
  case atStart => exact ⟨0, 0, by omega, by omega, rfl, rfl, by omega, _, _, HL0.out, HN2.out⟩
  case round =>
    obtain ⟨k, m, hk, hk6, rfl, rfl, hm, HX⟩ := hrel
    clear HN2 HL0
    obtain ⟨s, X, hs, hn⟩ := HX.out
    have HS := Lib.hid hs
    have HN := Lib.hid hn
    clear HX hs hn
    by_cases hc : k < l1.length ∧ k < l2.length ∧ k < 60
    · obtain ⟨hlt, hlt2, hlt6⟩ := hc
      have hltI : (k : Int) < (l1.length : Int) := by omega
      have hlt2I : (k : Int) < (l2.length : Int) := by omega
      have hlt6I : (k : Int) < 60 := by omega
      obtain ⟨z0, z1⟩ := HW1.out l1[k] (List.getElem_mem hlt)
      obtain ⟨b1, off1, rfl, hb1, hd1⟩ := rd_map HR1.out hlt
      obtain ⟨b2, off2, rfl, hb2, hd2⟩ := rd_map HR2.out hlt2
      have HCZ := Lib.hid (fun y (hy : BW W y) => (Below.cell hy (p := ⟨b1, off1 + k, none⟩) hb1).trans hd1)
      have HCV := Lib.hid (fun y (hy : BW W y) => (Below.cell hy (p := ⟨b2, off2 + k, none⟩) hb2).trans hd2)
      generalize l1[k] = z at *
      generalize l2[k] = v at *
      obtain ⟨_, z3, z4⟩ := mod32 z0 z1
      obtain ⟨q, hq⟩ : ∃ q : Nat, z % 32 = (q : Int) := ⟨(z % 32).toNat, by omega⟩
      have hq32 : q < 32 := by omega
      have cz := HCZ.out _ HN.out.low
      clear hd1 hd2 hb1 hb2 z3 z4
      rcases cla_small (s := s) (by rw [HS.out.len]; exact hm) (q : Int) with ⟨n0, n1, c, hc1, hc2⟩ | ⟨hnr, hc2⟩
      · have HCL := Lib.hid (hc2 ▸ ng_claim HN.out (q : Int))
        rw [Int.toNat_natCast] at HCL
        obtain ⟨s1, s2⟩ := lst_put HN.out.ok HS.out hq32 (fre_some hc1).2.1 v
        have HST := Lib.hid (fun y (h : NG W (addN s q c) g [(xCells X, 23, B)] y) => s1 ▸ ng_set h (c : Int) v)
        have HS2 := Lib.hid s2
        generalize setN (addN s q c) (c : Int) v = t at *
        generalize addN s q c = t0 at *
        clear hc1 hc2 s1 s2
        go_upto_region 16 with (first
          | (refine Hz.val_arm (o := ⟨some 39, .binOp _ _ _ _ _, _, _, _, _⟩) (v := .int .i64 (q : Int)) (by kernel_rfl) (ex_rem32q rfl rfl z0 z1 hq) ?_)
          | (refine Hz.val_arm (o := ⟨some 48, .binOp _ _ _ _ _, _, _, _, _⟩) (v := .bool true) (by kernel_rfl) (Hz.ex_gtK rfl rfl rfl (decide_eq_true n0)) ?_)
          | (go_at_call 10; refine HCL.out.mono ?_; rintro e w4 ⟨rfl, hng⟩; have HX4 := Lib.hid hng; have cv := HCV.out _ hng.low; clear hng)
          | (go_at_call 12; refine (HST.out _ HX4.out).mono ?_; rintro e w5 ⟨rfl, hng⟩))
        have hbk : Blk (xCells X) 23 B w5 := hng.blk List.mem_cons_self
        have cv5 := HCV.out _ hng.low
        have qx := (hbk.cell q).trans (xCells_at X hq32)
        have fx := hbk.free q
        have hb6 := hbk.set q (.int .u64 v)
        rw [xCells_set X hq32] at hb6
        have HN6 := Lib.hid (hng.put HWB.out (fun x hx => by cases hx) hb6 ((Fr.refl [B] w5).setCell (.inl (by simp)) _))
        have cz6 := HCZ.out _ HN6.out.low
        have hqI : (0 : Int) ≤ (q : Int) ∧ (q : Int) < 32 := by omega
        clear hng hbk hb6 HX4 cv cz
        generalize X q = xq at *
        generalize updN X q v = X2 at *
        by_cases hfull : m + 1 = 12 ∨ 127 < z
        · go_upto_region 17 with (fail)
          clear cv5 qx fx
          generalize w5.setCell _ _ = w6 at *
          go_upto_region 18 with (fail)
          go_cut [76] from 68 to 76 (fun u76 wx => u76 = .bool true ∧ w6 = wx)
          case first =>
            by_cases h12 : m = 11
            · have e12 : (((m : Int) + 1) == 12) = true := by simp; omega
              go_wp2
              go_meet
              case rel => exact ⟨rfl, rfl⟩
            · have e12 : (((m : Int) + 1) == 12) = false := by simp; omega
              have hz : 127 < z := by omega
              go_wp2
              go_meet
              case rel => exact ⟨by first | rfl | exact congrArg Value.bool (decide_eq_true (by omega)), rfl⟩
          case rest =>
          obtain ⟨rfl, rfl⟩ := hcut
          go_wp2
          obtain ⟨m1, hm1⟩ : ∃ m1 : Nat, (m : Int) + 1 = (m1 : Int) := ⟨m + 1, by omega⟩
          have hm1' : m + 1 = m1 := by omega
          rw [hm1'] at HS2
          try rw [hm1]
          clear hm1 hfull
          go_loopw [8] (fun j wx => ∃ i : Nat, j = .int .i64 (i : Int) ∧ i ≤ m1 ∧ Hid (∃ s, Lst s X2 i ∧ NG W s g [(xCells X2, 23, B)] wx)) (fun j _ => (intOf j).toNat)
          case atStart => exact ⟨m1, by first | rfl | go_num, Nat.le_refl _, _, HS2.out, HN6.out⟩
          case round =>
            obtain ⟨i, rfl, hi, HY⟩ := hrel
            obtain ⟨s3, y1, y2⟩ := HY.out
            have HY1 := Lib.hid y1
            have HY2 := Lib.hid y2
            clear HY y1 y2
            cases i with
            | succ i =>
              have hiI : (0 : Int) < ((i + 1 : Nat) : Int) := by omega
              obtain ⟨u1, u2⟩ := lst_ret HY2.out.ok HY1.out
              have HRT := Lib.hid (u1 ▸ ng_retire HY2.out)
              have HU := Lib.hid u2
              have hiJ : ((i + 1 : Nat) : Int) - 1 = (i : Int) := by omega
              clear u1 u2
              go_wp2_with (first
                | (go_at_call 14; refine HRT.out.mono ?_; rintro e w7 ⟨rfl, hng⟩; have HX7 := Lib.hid hng; clear hng))
              go_roundw
              case rel => exact ⟨i, by first | rfl | go_num, by omega, _, HU.out, HX7.out⟩
              case measure => simp [intOf]
            | zero =>
              go_wp2
              go_roundw
              case rel => exact ⟨k + 1, 0, by omega, by omega, by first | rfl | go_num, rfl, by omega, _, _, HY1.out, HY2.out⟩
              case measure => simp [intOf]; omega
        · have e12 : (((m : Int) + 1) == 12) = false := by simp; omega
          have hz : ¬ 127 < z := fun h => hfull (.inr h)
          have hm2 : m + 1 < 12 := by have : ¬ m + 1 = 12 := fun h => hfull (.inl h); omega
          clear hfull
          go_upto_region 17 with (fail)
          clear cv5 qx fx
          generalize w5.setCell _ _ = w6 at *
          go_wp2
          go_roundw
          case rel => exact ⟨k + 1, m + 1, by omega, by omega, by first | rfl | go_num, by first | rfl | go_num, hm2, _, _, HS2.out, HN6.out⟩
          case measure => simp [intOf]; omega
      · have hq0 : q = 0 := by omega
        subst hq0
        have HCL := Lib.hid (hc2 ▸ ng_claim HN.out ((0 : Nat) : Int))
        clear hc2 hnr
        go_wp2_with (first
          | (refine Hz.val_arm (o := ⟨some 39, .binOp _ _ _ _ _, _, _, _, _⟩) (v := .int .i64 ((0 : Nat) : Int)) (by kernel_rfl) (ex_rem32q rfl rfl z0 z1 hq) ?_)
          | (go_at_call 10; refine HCL.out.mono ?_; rintro e w4 ⟨rfl, hng⟩; have HX4 := Lib.hid hng; clear hng))
        go_roundw
        case rel => exact ⟨k + 1, m, by omega, by omega, by first | rfl | go_num, rfl, hm, _, _, HS.out, HX4.out⟩
        case measure => simp [intOf]; omega
    · obtain ⟨wA, rfl⟩ : ∃ x : World, x = wr := ⟨_, rfl⟩
      go_upto_region 7 with (fail)
      go_cut [31] from 18 to 31 (fun u31 wx => u31 = .bool false ∧ wA = wx)
      case first =>
        by_cases h1 : (k : Int) < (l1.length : Int)
        · by_cases h2 : (k : Int) < (l2.length : Int)
          · have h60 : ¬ (k : Int) < 60 := by omega
            go_wp2
            go_meet
            case rel => exact ⟨by first | rfl | exact congrArg Value.bool (decide_eq_false (by omega)), rfl⟩
          · go_wp2
            go_meet
            case rel => exact ⟨by first | rfl | exact congrArg Value.bool (decide_eq_false (by omega)), rfl⟩
        · go_wp2
          go_meet
          case rel => exact ⟨by first | rfl | exact congrArg Value.bool (decide_eq_false (by omega)), rfl⟩
      case rest =>
      obtain ⟨rfl, rfl⟩ := hcut
      clear hc
      go_wp2
      go_loopw [8] (fun j wx => ∃ i : Nat, j = .int .i64 (i : Int) ∧ i ≤ m ∧ Hid (∃ s, Lst s X i ∧ NG W s g [(xCells X, 23, B)] wx)) (fun j _ => (intOf j).toNat)
      case atStart => exact ⟨m, rfl, Nat.le_refl _, _, HS.out, HN.out⟩
      case round =>
        obtain ⟨i, rfl, hi, HY⟩ := hrel
        obtain ⟨s3, y1, y2⟩ := HY.out
        have HY1 := Lib.hid y1
        have HY2 := Lib.hid y2
        clear HY y1 y2 HS HN
        cases i with
        | succ i =>
          have hiI : (0 : Int) < ((i + 1 : Nat) : Int) := by omega
          obtain ⟨u1, u2⟩ := lst_ret HY2.out.ok HY1.out
          have HRT := Lib.hid (u1 ▸ ng_retire HY2.out)
          have HU := Lib.hid u2
          clear u1 u2
          go_wp2_with (first
            | (go_at_call 14; refine HRT.out.mono ?_; rintro e w7 ⟨rfl, hng⟩; have HX7 := Lib.hid hng; clear hng))
          go_roundw
          case rel => exact ⟨i, by first | rfl | go_num, by omega, _, HU.out, HX7.out⟩
          case measure => simp [intOf]
        | zero =>
          have HVL := Lib.hid (fun y (h : NG W s3 g [(xCells X, 23, B)] y) => lst_end HY1.out ▸ ng_values h)
          have HCL := Lib.hid (fun y (h : NG W s3 g [(xCells X, 23, B)] y) => HY1.out.len ▸ ng_claims h)
          go_wp2_with (fail)
          refine wp_region_held (S := NG W s3 g [(xCells X, 23, B)]) (by kernel_rfl) ?_
          change wpAnyH _ _ _ _ _ _ _ _ (World.drew _)
          have HS5 := HY2.out.on (Below.drew (Below.refl _ _))
          clear HY2 HY1
          generalize World.drew _ = w5 at *
          refine hk_call (i := 0) (oi := ⟨some 91, .call _, _, _, _, _⟩) (by kernel_rfl) rfl (by kernel_rfl) (by first | rfl | kernel_rfl) (HAL.out _) ?_
          rintro e w6 ⟨rfl, hb6⟩
          have HS6 := HS5.on hb6
          refine ⟨_, rfl, HS6, ?_⟩
          simp only [Act.put, List.setIfInBounds_toArray, List.set_cons_zero, List.set_cons_succ]
          refine hk_val (i := 1) (oi := ⟨some 92, .move _, _, _, _, _⟩) (.bool true) rfl (by kernel_rfl) (by kernel_rfl) (by kernel_rfl) (fun _ _ _ h => h) (by kernel_rfl) (fun _ _ => rfl) HS6 ?_
          simp only [Act.put, List.setIfInBounds_toArray, List.set_cons_zero, List.set_cons_succ]
          refine hk_val (i := 2) (oi := ⟨some 93, .move _, _, _, _, _⟩) (.pointer (some ⟨g, 0, none⟩)) rfl (by kernel_rfl) (by kernel_rfl) (by kernel_rfl) (fun _ _ _ h => h) (by kernel_rfl) (fun _ _ => rfl) HS6 ?_
          simp only [Act.put, List.setIfInBounds_toArray, List.set_cons_zero, List.set_cons_succ]
          refine hk_val (i := 4) (oi := ⟨some 95, .load _ _, _, _, _, _⟩) (.agg (xCells X)) rfl (by kernel_rfl) (by kernel_rfl) (by kernel_rfl) (fun _ _ _ h => h) (by kernel_rfl) (fun y hy => Hz.ex_load_all 23 (.tmp 3) rfl rfl (hy.blk List.mem_cons_self) Try.underlying23 rfl (by rw [xCells_size]; kernel_rfl)) HS6 ?_
          simp only [Act.put, List.setIfInBounds_toArray, List.set_cons_zero, List.set_cons_succ]
          refine hk_call (i := 3) (oi := ⟨some 94, .call _, _, _, _, _⟩) (by kernel_rfl) rfl (by kernel_rfl) (by first | rfl | kernel_rfl) (HVL.out _ HS6) ?_
          rintro e w7 ⟨rfl, hb7⟩
          have HS7 := HS6.on hb7
          refine ⟨_, rfl, HS7, ?_⟩
          simp only [Act.put, List.setIfInBounds_toArray, List.set_cons_zero, List.set_cons_succ]
          refine hk_val (i := 5) (oi := ⟨some 96, .binOp _ _ _ _ _, _, _, _, _⟩) (.bool true) rfl (by kernel_rfl) (by kernel_rfl) (by kernel_rfl) (fun _ _ _ h => h) (by kernel_rfl) (fun _ _ => exec_cmpN rfl guard_xc rfl rfl (eql_xc _ _)) HS7 ?_
          simp only [Act.put, List.setIfInBounds_toArray, List.set_cons_zero, List.set_cons_succ]
          refine hk_val (i := 6) (oi := ⟨some 97, .pick _ _ _, _, _, _, _⟩) (.bool true) rfl (by kernel_rfl) (by kernel_rfl) (by kernel_rfl) (fun _ _ _ h => h) (by kernel_rfl) (fun _ _ => rfl) HS7 ?_
          simp only [Act.put, List.setIfInBounds_toArray, List.set_cons_zero, List.set_cons_succ]
          refine hk_val (i := 7) (oi := ⟨some 98, .move _, _, _, _, _⟩) (.bool true) rfl (by kernel_rfl) (by kernel_rfl) (by kernel_rfl) (fun _ _ _ h => h) (by kernel_rfl) (fun _ _ => rfl) HS7 ?_
          simp only [Act.put, List.setIfInBounds_toArray, List.set_cons_zero, List.set_cons_succ]
          refine hk_val (i := 8) (oi := ⟨some 99, .move _, _, _, _, _⟩) (.pointer (some ⟨g, 0, none⟩)) rfl (by kernel_rfl) (by kernel_rfl) (by kernel_rfl) (fun _ _ _ h => h) (by kernel_rfl) (fun _ _ => rfl) HS7 ?_
          simp only [Act.put, List.setIfInBounds_toArray, List.set_cons_zero, List.set_cons_succ]
          refine hk_call (i := 9) (oi := ⟨some 100, .call _, _, _, _, _⟩) (by kernel_rfl) rfl (by kernel_rfl) (by first | rfl | kernel_rfl) (HCL.out _ HS7) ?_
          rintro e w8 ⟨rfl, rfl⟩
          refine ⟨_, rfl, HS7, ?_⟩
          simp only [Act.put, List.setIfInBounds_toArray, List.set_cons_zero, List.set_cons_succ]
          refine hk_val (i := 10) (oi := ⟨some 101, .binOp _ _ _ _ _, _, _, _, _⟩) (.bool true) rfl (by kernel_rfl) (by kernel_rfl) (by kernel_rfl) (fun _ _ _ h => h) (by kernel_rfl) (fun _ _ => by kernel_rfl) HS7 ?_
          simp only [Act.put, List.setIfInBounds_toArray, List.set_cons_zero, List.set_cons_succ]
          refine hk_val (i := 11) (oi := ⟨some 102, .pick _ _ _, _, _, _, _⟩) (.bool true) rfl (by kernel_rfl) (by kernel_rfl) (by kernel_rfl) (fun _ _ _ h => h) (by kernel_rfl) (fun _ _ => rfl) HS7 ?_
          simp only [Act.put, List.setIfInBounds_toArray, List.set_cons_zero, List.set_cons_succ]
          refine hk_val (i := 12) (oi := ⟨some 6, .assign _, _, _, _, _⟩) (.bool true) rfl (by kernel_rfl) (by kernel_rfl) (by kernel_rfl) (fun _ _ _ h => h) (by kernel_rfl) (fun _ _ => rfl) HS7 ?_
          simp only [Act.put, List.setIfInBounds_toArray, List.set_cons_zero, List.set_cons_succ]
          refine wpAnyH_done (by kernel_rfl) ?_ _
          go_wp2
          go_ret
          exact ⟨rfl, HS7.low⟩
end Go.Proofs.Ytoahejjeihmiiaa
