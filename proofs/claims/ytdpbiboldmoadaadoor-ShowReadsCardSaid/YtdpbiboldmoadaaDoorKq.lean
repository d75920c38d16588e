/- The program's cut: a text cut along a shape. -/
import Derived.Test.YtdpbiboldmoadaaDoorKp
import Derived.Test.YtdpbiboldmoadaaDoorRw9
import Derived.Deep.AppendLies
import Derived.Deep.RegionLaw
set_option maxRecDepth 100000
namespace Go.Proofs.YtdpbiboldmoadaaDoor
open Go.RowKit

theorem own_apart {w : World} {b1 b2 n1 n2 : Nat} {e1 e2 : TypeId} {v1 v2 : Value} {xs ys : List Value} (h1 : w.ownsRow b1 e1 1 v1 n1 xs) (h2 : w.ownsRow b2 e2 1 v2 n2 ys) (hne : e1 ≠ e2) : v1.ownBlock = none ∨ v1.ownBlock ≠ v2.ownBlock := by
  rcases h1.2 with ⟨rfl, _⟩ | ⟨g1, c1, cur1, rfl, _, hg1, _⟩
  · exact .inl rfl
  · rcases h2.2 with ⟨rfl, _⟩ | ⟨g2, c2, cur2, rfl, _, hg2, _⟩
    · exact .inr (by simp [Value.ownBlock])
    · right
      simp only [Value.ownBlock]
      intro e
      obtain rfl := Option.some.inj e
      rw [hg1] at hg2
      exact hne (by injection Option.some.inj hg2)
/-- What cut hands back: the letters and the parts, in memory of its own. -/
def RetCut (w : World) (o : Option (List (UInt8 × List UInt8) × List UInt8)) (e : Ending) (w' : World) : Prop :=
  match o with
  | none => e = .returned (.tuple #[.slice none 0 0, .slice none 0 0, .bool false]) ∧ Below w.heap.size w w'
  | some x => ∃ v7 v8 b, e = .returned (.tuple #[v7, v8, .bool b]) ∧ b = decide (x.2 = []) ∧ w'.ownsRow w.heap.size 5 1 v7 x.1.length (cellsU8 (x.1.map Prod.fst)) ∧ w'.ownsRow w.heap.size 9 1 v8 x.1.length (txs (x.1.map Prod.snd)) ∧ Below w.heap.size w w'
theorem take_first {s : List UInt8} {j : Nat} (hj : j < s.length) (h : ∀ q (hq : q < s.length), q < j → noMk s[q] = true) (hm : isMk s[j] = true) : s.takeWhile noMk = s.take j ∧ s.dropWhile noMk = s.drop j := by
  have e : s.take j ++ s.drop j = s := List.take_append_drop _ _
  have := take_all (a := s.take j) (b := s.drop j) (fun c hc => by
    obtain ⟨q, hq, rfl⟩ := List.getElem_of_mem hc
    rw [List.length_take] at hq
    rw [List.getElem_take]
    exact h q (by omega) (by omega)) (.inr ⟨s[j], s.drop (j + 1), List.drop_eq_getElem_cons hj, hm⟩)
  rw [e] at this
  exact this
theorem take_none {s : List UInt8} (h : ∀ q (hq : q < s.length), noMk s[q] = true) : s.takeWhile noMk = s ∧ s.dropWhile noMk = [] := by
  have := take_all (a := s) (b := []) (fun c hc => by
    obtain ⟨q, hq, rfl⟩ := List.getElem_of_mem hc
    exact h q hq) (.inl rfl)
  rw [List.append_nil] at this
  exact this
set_option maxHeartbeats 4000000 in
theorem cut_fill (S O : List UInt8) (hS : S.length ≤ 100000) (hO : O.length ≤ 20) (w : World) : Calls Tryd.prog 34 #[tx S, tx O] w (RetCut w (cutA O S [])) := by
  obtain ⟨i0, hi, hz0, hz1, hz2⟩ := info_parts Tryd.info5
  obtain ⟨i9, gi, gz0, gz1, gz2⟩ := info_parts info_str
  obtain ⟨cap, w1, hconv, hB1, hg1, hcells⟩ := conv_bytes O w
  have KM := fun c x => isMark_c c x
  have HC := Lib.hid hcells
  have HB := Lib.hid hB1
  clear hcells hB1
  unfold tx
  go_enter Tryd.func34, Tryd.ntmps34
  go_wp2
  go_step3
  go_wp2
  go_step3
  go_wp2
  obtain ⟨g, hgw⟩ : ∃ g, w.heap.size = g := ⟨_, rfl⟩
  have HB0 : Hid (g ≤ w1.heap.size) := by show g ≤ _; rw [← hgw]; exact Below.size HB.out
  rw [hgw] at HC hg1 ⊢
  obtain ⟨res, hres⟩ : ∃ r, cutA O S [] = r := ⟨_, rfl⟩
  rw [hres]
  have HRS := Lib.hid hres
  clear hconv hres
  go_loopg [0, 7, 8, 15] O.length (fun gg s v7 v8 i wr => ∃ (k : Nat) (Sk : List UInt8) (A : List (UInt8 × List UInt8)), i = .int .i64 k ∧ k + gg = O.length ∧ s = .string (bs Sk) ∧ Hid (cutA (O.drop k) Sk A = res) ∧ Sk.length ≤ 100000 ∧ A.length ≤ k ∧ Hid (wr.ownsRow w1.heap.size 5 1 v7 A.length (cellsU8 (A.map Prod.fst))) ∧ Hid (wr.ownsRow w1.heap.size 9 1 v8 A.length (txs (A.map Prod.snd))) ∧ Hid (Below w1.heap.size w1 wr))
  case atStart => exact ⟨0, S, [], rfl, by omega, rfl, HRS, hS, Nat.le_refl _, World.ownsRow_nil _ _ _ _, World.ownsRow_nil _ _ _ _, Below.refl _ _⟩
  case round =>
    obtain ⟨k, Sk, A, rfl, hk, rfl, HA, hSk, hAk, HL, HP, HBR⟩ := hrel
    by_cases hlt : k < O.length
    · have hc := HC.out k hlt
      rw [← HBR.out.cell (p := ⟨g, k, none⟩) hg1] at hc
      have hd : O.drop k = O[k] :: O.drop (k + 1) := List.drop_eq_getElem_cons hlt
      obtain ⟨c, hcc⟩ : ∃ c, O[k] = c := ⟨_, rfl⟩
      rw [hcc] at hc hd
      have hA := HA.out
      rw [hd, cutA] at hA
      have hm := KM c wr
      have hltI : (k : Int) < O.length := by omega
      clear hd hcc HA HC
      cases hmk : isMk c with
      | true =>
        rw [hmk] at hm
        rw [if_pos hmk] at hA
        obtain ⟨d, hdd⟩ : ∃ d, bs Sk = d := ⟨_, rfl⟩
        have hE : d.toList.isEmpty = Sk.isEmpty := by rw [← hdd, bs_list]
        have hsz : d.size = Sk.length := by rw [← hdd]; rfl
        cases Sk with
        | nil =>
          have hE : d.toList.isEmpty = true := hE
          have hR : res = none := hA.symm
          have HR := Lib.hid hR
          rw [hdd]
          clear hA hR hsz HL HP
          go_wp2_with (first
            | (go_at_call 52; refine hm.mono ?_; rintro e w' ⟨rfl, rfl⟩))
          try rw [Exit.noGoto_ret]
          go_ret3
          rw [HR.out]
          exact ⟨rfl, Below.trans HB.out (HBR.out.mono (Below.size HB.out))⟩
        | cons a t =>
          have hE : d.toList.isEmpty = false := hE
          have hp : 0 < d.size := by rw [hsz]; simp
          have hx : d[0] = a := by subst hdd; rfl
          have hx1 : d.extract 1 d.size = bs t := by subst hdd; exact extract_drop (a :: t) 1
          have hp1 : (1 : Int) ≤ d.size := by omega
          by_cases hac : a = c
          · have hR : cutA (O.drop (k + 1)) t A = res := by rw [← hA, hac, eat_self]; rfl
            have HR := Lib.hid hR
            have hne : ((d[0].toNat : Int) != (c.toNat : Int)) = false := by rw [hx, hac]; simp
            rw [hdd]
            clear hA hR hx hac hdd hsz
            go_wp2_with (first
              | (go_at_call 52; refine hm.mono ?_; rintro e w' ⟨rfl, rfl⟩))
            go_roundg (O.length - (k + 1))
            case measure => omega
            case rel => exact ⟨k + 1, t, A, by go_num, by omega, rfl, HR, by simp at hSk; omega, by omega, HL, HP, HBR⟩
          · have hR : res = none := by rw [← hA]; unfold eatT; simp only; rw [if_neg hac]; rfl
            have HR := Lib.hid hR
            have hne : ((d[0].toNat : Int) != (c.toNat : Int)) = true := by
              rw [hx, bne_iff_ne]
              intro e
              exact hac (UInt8.toNat_inj.1 (by omega))
            rw [hdd]
            clear hA hR hx hac hdd HL HP
            go_wp2_with (first
              | (go_at_call 52; refine hm.mono ?_; rintro e w' ⟨rfl, rfl⟩))
            try rw [Exit.noGoto_ret]
            go_ret3
            rw [HR.out]
            exact ⟨rfl, Below.trans HB.out (HBR.out.mono (Below.size HB.out))⟩
      | false =>
        rw [hmk] at hm
        rw [if_neg (by rw [hmk]; decide)] at hA
        obtain ⟨d, hdd⟩ : ∃ d, bs Sk = d := ⟨_, rfl⟩
        have hsz : d.size = Sk.length := by rw [← hdd]; rfl
        obtain ⟨C, hCC⟩ : ∃ C : Int, (c.toNat : Int) = C := ⟨_, rfl⟩
        have hcl : cellsU8 ((A ++ [(c, Sk.takeWhile noMk)]).map Prod.fst) = cellsU8 (A.map Prod.fst) ++ [.int .u8 C] := by rw [← hCC]; simp [cellsU8]
        rw [hCC] at hc hm
        rw [hdd]
        go_upto_region 11 with (first
          | (go_at_call 52; refine hm.mono ?_; rintro e w' ⟨rfl, rfl⟩)
          | (at_builtin; refine wpList_append_own _ rfl _ _ 44 rfl w1.heap.size 5 i0 (.int .u8 0) 1 1 Tryd.underlying44 hi hz0 hz1 hz2 rfl (by decide) _ _ _ rfl (HL.out.alloc _) ⟨wr.heap.size, 0, none⟩ 1 1 [.int .u8 C] rfl rfl (cell_new _ _ _) (by simp [Value.oneCell']) (by unfold maxLen; omega) (by omega) (by have := HBR.out.size; simp; omega) ?_))
        intro v7 wa hown hgrow hnn
        clear hnn
        have HBB : Hid (Below w1.heap.size w1 wa) := (HBR.out.alloc HBR.out.size _).grown hgrow (by have := HBR.out.size; simp; omega) (fun q hq => (HL.out.lt q hq).1)
        have HP1 : Hid (wa.ownsRow w1.heap.size 9 1 u8 A.length (txs (A.map Prod.snd))) := (HP.out.alloc _).kept hgrow (own_apart HP.out HL.out (by decide))
        have HL1 := Lib.hid hown
        clear hown hgrow HL HP hc hm
        go_wp2
        have hcl2 : A.length + 1 = (A ++ [(c, Sk.takeWhile noMk)]).length := by simp
        rw [← hcl, hcl2] at HL1
        clear hcl hcl2
        go_loopg [0, 8, 37] Sk.length (fun hh t0 t8 ti wy => wa = wy ∧ t0 = .string d ∧ t8 = u8 ∧ ∃ j : Nat, ti = .int .i64 j ∧ j + hh = Sk.length ∧ Hid (∀ q (hq : q < Sk.length), q < j → noMk Sk[q] = true))
        case atStart => exact ⟨rfl, rfl, rfl, 0, rfl, by omega, fun q hq h => absurd h (by omega)⟩
        case round =>
          obtain ⟨rfl, rfl, rfl, j, rfl, hj, HQ⟩ := hrel
          by_cases hjl : j < Sk.length
          · have hjd : j < d.size := by omega
            have hjI : (j : Int) < d.size := by omega
            obtain ⟨y, hy⟩ : ∃ y, Sk[j] = y := ⟨_, rfl⟩
            have hdy : d[j] = y := by subst hdd; exact hy
            have hmy := KM y wa
            cases hyk : isMk y with
            | true =>
              rw [hyk] at hmy
              obtain ⟨t1, t2⟩ := take_first hjl HQ.out (by rw [hy]; exact hyk)
              have hx1 : d.extract 0 j = bs (Sk.takeWhile noMk) := by rw [t1, ← hdd]; exact extract_take Sk j
              have hx2 : d.extract j d.size = bs (Sk.dropWhile noMk) := by rw [t2, ← hdd]; exact extract_drop Sk j
              have hdl : (Sk.dropWhile noMk).length ≤ 100000 := by rw [t2, List.length_drop]; omega
              have hjI2 : (j : Int) ≤ d.size := by omega
              have hps : txs ((A ++ [(c, Sk.takeWhile noMk)]).map Prod.snd) = txs (A.map Prod.snd) ++ [tx (Sk.takeWhile noMk)] := by simp [txs]
              have hAl : A.length + 1 = (A ++ [(c, Sk.takeWhile noMk)]).length := by simp
              have HPS := Lib.hid hps
              have HAL := Lib.hid hAl
              clear HQ hy hsz t1 t2 hps hAl
              go_upto_region 15 with (first
                | (go_at_call 52; refine hmy.mono ?_; rintro e w' ⟨rfl, rfl⟩))
              go_region_law (refine step_append_lies (hgd := rfl) (s := .tmp 44) (x := .tmp 48) (t := 52) (ho := rfl) (base := w1.heap.size) (e := 9) (i := i9) (z := .string ByteArray.empty) (size := 1) (bytes := 16) (ht := Tryd.underlying52) (hi := gi) (hz := gz0) (hsize := gz1) (hby := gz2) (hzs := rfl) (hsz := by decide) (v := u8) (n := A.length) (xs := txs (A.map Prod.snd)) (hs := by simp [Act.eval]) (hown := HP1.out.alloc (.cells #[tx (Sk.takeWhile noMk)] 9)) (ad := ⟨wa.heap.size, 0, none⟩) (m := 1) (c := 1) (news := [tx (Sk.takeWhile noMk)]) (hx := by simp [Act.eval]) (hl := rfl) (hnews := cell_new wa _ _) (h1 := by simp [tx, Value.oneCell']) (hm := by decide) (h63 := by unfold maxLen; omega) (hbytes := by omega) (hbase := by have := HBB.out.size; simp; omega) (H := _) (hH := rfl) (h := ?_); intro gp cp wb hown hgrow hlies hltb; have HP2 := Lib.hid hown; have HG := Lib.hid hgrow; clear hown hgrow hlies hltb)
              have HBB2 : Hid (Below w1.heap.size w1 wb) := (Below.drew (HBB.out.alloc HBB.out.size (.cells #[tx (Sk.takeWhile noMk)] 9))).grown HG.out (by have := HBB.out.size; simp; omega) (fun q hq => (HP1.out.lt q hq).1)
              have HL2 : Hid (wb.ownsRow w1.heap.size 5 1 v7 (A ++ [(c, Sk.takeWhile noMk)]).length (cellsU8 ((A ++ [(c, Sk.takeWhile noMk)]).map Prod.fst))) := (show World.ownsRow (wa.alloc (.cells #[tx (Sk.takeWhile noMk)] 9)).drew _ _ _ _ _ _ from HL1.out.alloc _).kept HG.out (own_apart HL1.out HP1.out (by decide))
              have HP3 := HP2.out
              rw [← HPS.out, HAL.out] at HP3
              have HP4 := Lib.hid HP3
              clear HP3 HP2 HG HPS HBB HL1 HP1
              have HA2 := Lib.hid hA
              clear hA
              obtain ⟨np, hnp⟩ : ∃ n, A.length + 1 = n := ⟨_, rfl⟩
              have HNP := HAL.out
              rw [hnp] at HNP ⊢
              clear hnp
              have HNPH := Lib.hid HNP
              clear HNP HAL
              go_wp2
              go_roundg (O.length - (k + 1))
              case measure => omega
              case rel => exact ⟨k + 1, Sk.dropWhile noMk, A ++ [(c, Sk.takeWhile noMk)], by go_num, by omega, rfl, HA2, hdl, by simp; omega, HL2, by rw [HNPH.out]; exact HP4, HBB2⟩
            | false =>
              rw [hyk] at hmy
              have HQ2 : Hid (∀ q (hq : q < Sk.length), q < j + 1 → noMk Sk[q] = true) := fun q hq h => by
                rcases Nat.lt_succ_iff_lt_or_eq.1 h with h | rfl
                · exact HQ.out q hq h
                · unfold noMk; rw [hy, hyk]; rfl
              clear HQ hy hsz
              go_wp2_with (first
                | (go_at_call 52; refine hmy.mono ?_; rintro e w' ⟨rfl, rfl⟩))
              go_roundg (Sk.length - (j + 1))
              case measure => omega
              case rel => exact ⟨rfl, rfl, rfl, j + 1, by go_num, by omega, HQ2⟩
          · obtain ⟨t1, t2⟩ := take_none (s := Sk) (fun q hq => HQ.out q hq (by omega))
            have hps : txs ((A ++ [(c, Sk.takeWhile noMk)]).map Prod.snd) = txs (A.map Prod.snd) ++ [.string d] := by rw [t1, ← hdd]; simp [txs, tx]
            have hAl : A.length + 1 = (A ++ [(c, Sk.takeWhile noMk)]).length := by simp
            rw [t2] at hA
            have hjz : ¬ (j : Int) < d.size := by omega
            have hjz2 : ¬ (j : Int) < Sk.length := by omega
            have HPS := Lib.hid hps
            have HAL := Lib.hid hAl
            clear HQ hsz t1 t2 hps hAl
            go_wp2_with (first
              | (at_builtin; refine wpList_append_own _ rfl _ _ 52 rfl w1.heap.size 9 i9 (.string ByteArray.empty) 1 16 Tryd.underlying52 gi gz0 gz1 gz2 rfl (by decide) _ _ _ rfl (HP1.out.alloc _) ⟨wa.heap.size, 0, none⟩ 1 1 [.string d] rfl rfl (cell_new _ _ _) (by simp [Value.oneCell']) (by unfold maxLen; omega) (by omega) (by have := HBB.out.size; simp; omega) ?_))
            intro v8 wb hown hgrow hnn
            clear hnn
            have HBB2 : Hid (Below w1.heap.size w1 wb) := (HBB.out.alloc HBB.out.size _).grown hgrow (by have := HBB.out.size; simp; omega) (fun q hq => (HP1.out.lt q hq).1)
            have HL2 : Hid (wb.ownsRow w1.heap.size 5 1 v7 (A ++ [(c, Sk.takeWhile noMk)]).length (cellsU8 ((A ++ [(c, Sk.takeWhile noMk)]).map Prod.fst))) := (HL1.out.alloc _).kept hgrow (own_apart HL1.out HP1.out (by decide))
            rw [← HPS.out, HAL.out] at hown
            have HP4 := Lib.hid hown
            clear hown hgrow HPS HBB HL1 HP1 HAL
            have HA2 := Lib.hid hA
            clear hA
            go_wp2
            go_roundg (O.length - (k + 1))
            case measure => omega
            case rel => exact ⟨k + 1, [], A ++ [(c, Sk.takeWhile noMk)], by go_num, by omega, rfl, HA2, by simp, by simp; omega, HL2, HP4, HBB2⟩
    · obtain rfl : k = O.length := by omega
      have hA := HA.out
      rw [List.drop_length, cutA] at hA
      have HR := Lib.hid hA.symm
      have hE : ((bs Sk).toList == []) = decide (Sk = []) := by rw [bs_list]; cases Sk <;> rfl
      have hE2 : (bs Sk).toList.isEmpty = decide (Sk = []) := by rw [bs_list]; cases Sk <;> rfl
      clear hA HA
      go_wp2
      try rw [Exit.noGoto_ret]
      go_ret3
      try rw [HRS.out]
      rw [HR.out]
      exact ⟨_, _, _, rfl, rfl, Joins.ownsRow_le HL.out (Below.size HB.out), Joins.ownsRow_le HP.out (Below.size HB.out), Below.trans HB.out (HBR.out.mono (Below.size HB.out))⟩
end Go.Proofs.YtdpbiboldmoadaaDoor
