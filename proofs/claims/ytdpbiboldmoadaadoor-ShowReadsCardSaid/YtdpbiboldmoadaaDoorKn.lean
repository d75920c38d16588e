/- The program's Number and Register. -/
import Derived.Test.YtdpbiboldmoadaaDoorKt
import Derived.Lib.ConvBytes
set_option maxRecDepth 100000
namespace Go.Proofs.YtdpbiboldmoadaaDoor
open Go.RowKit

def negS (S : List UInt8) : Bool := Lib.hasPrefix S [45]
def digS (S : List UInt8) : List UInt8 := Lib.trimPrefix S [45]
theorem num_split (S : List UInt8) : numV S = numX (negS S) (digS S) ∧ (negS S = false → digS S = S) := by
  unfold digS negS Lib.trimPrefix Lib.hasPrefix
  cases S with
  | nil => exact ⟨rfl, fun _ => rfl⟩
  | cons a t =>
    by_cases h : a = 45
    · subst h
      have e : List.isPrefixOf [45] (45 :: t) = true := by simp [List.isPrefixOf]
      rw [e, if_pos rfl]
      refine ⟨?_, fun h => by cases h⟩
      show numV _ = numN t
      unfold numV numN
      rw [if_pos (show (45 :: t).head? = some 45 from rfl)]
      rfl
    · have e : List.isPrefixOf [45] (a :: t) = false := by simp [List.isPrefixOf]; exact fun e => h e.symm
      rw [e, if_neg (by decide)]
      refine ⟨?_, fun _ => rfl⟩
      show numV _ = numP _
      unfold numV numP
      rw [if_neg (by intro e; exact h (Option.some.inj e))]
theorem wrap64_of {x : Int} (h : -9223372036854775808 ≤ x ∧ x ≤ 9223372036854775807) : wrap64 x = x := by unfold wrap64; omega
theorem valD_mono (a b : List UInt8) : valD a ≤ valD (a ++ b) := by
  refine snoc_ind (P := fun b => valD a ≤ valD (a ++ b)) (by simp) ?_ b
  intro l c ih
  show valD a ≤ valD (a ++ (l ++ [c]))
  rw [← List.append_assoc, valD_snoc]
  have ih : valD a ≤ valD (a ++ l) := ih
  omega
/-- Digits whose number is no more than 2^63 are 19 at most. -/
theorem digT_len {d : List UInt8} (hT : DigT d) (h : valD d ≤ 9223372036854775808) : d.length ≤ 19 := by
  have := dig_back d hT (by omega)
  rw [← this]
  exact digU_len h
theorem numX_big {neg : Bool} {d : List UInt8} (h : 9223372036854775808 < valD d) : numX neg d = none := by
  cases neg
  · show numP d = none
    unfold numP
    rw [if_neg (fun h' => by omega)]
  · show numN d = none
    unfold numN
    rw [if_neg (fun h' => by omega)]
/-- What comes of digits that are all there. -/
theorem numX_end {neg : Bool} {d : List UInt8} (hT : DigT d) (h : valD d ≤ 9223372036854775808) (h48 : neg = true → d.head? ≠ some 48) :
    numX neg d = if neg then some (-(valD d : Int)) else if valD d = 9223372036854775808 then none else some (valD d : Int) := by
  rw [numX_good hT (digT_len hT h) h48]
  cases neg
  · by_cases e : valD d = 9223372036854775808
    · rw [if_pos (.inr ⟨e, rfl⟩), if_neg (by decide), if_pos e]
    · rw [if_neg (by rintro (h' | ⟨h', _⟩) <;> omega), if_neg (by decide), if_neg (by decide), if_neg e]
  · rw [if_neg (by rintro (h' | ⟨_, h'⟩); omega; cases h'), if_pos rfl, if_pos rfl]
/-- A string's bytes in memory of their own. -/
theorem conv_bytes (D : List UInt8) (w : World) : ∃ cap w1, (convert 9 44 (.string (bs D))).run Tryd.prog w = .ok (.slice (some ⟨w.heap.size, 0, none⟩) D.length cap) w1 ∧ Below w.heap.size w w1 ∧ w.heap.size < w1.heap.size ∧
    ∀ k (h : k < D.length), w1.cell? ⟨w.heap.size, k, none⟩ = some (.int .u8 (D[k].toNat : Int)) := by
  refine ⟨_, _, Lib.run_convert_string_bytes w 9 44 5 (bs D) Tryd.underlying9 Tryd.underlying44 Tryd.underlying5, ?_, ?_, ?_⟩
  · refine ⟨rfl, rfl, rfl, ?_, ?_⟩
    · rw [Lib.bytesWorld_size]; omega
    · intro b hb
      exact Lib.bytesWorld_at_old w _ _ b hb
  · rw [Lib.bytesWorld_size]; omega
  · intro k h
    rw [Lib.bytesWorld_cell w _ (bs D) k h]
    show some (Value.int .u8 ((D.getD k 0).toNat : Int)) = _
    rw [List.getD_eq_getElem?_getD, List.getElem?_eq_getElem h]
    rfl
set_option maxHeartbeats 2000000 in
theorem number_c (S : List UInt8) (hl : S.length ≤ 100000) (w : World) : Calls Tryd.prog 13 #[tx S] w fun e w' => e = .returned (retO (numV S)) ∧ Below w.heap.size w w' := by
  have HK : ∀ w, Calls Tryd.prog 38 #[.string (bs S), .string ⟨#[45]⟩] w fun e w' => e = .returned (.tuple #[.string (bs (digS S)), .bool (negS S)]) ∧ w' = w := fun w => Tryd.strings_CutPrefix (bs S) ⟨#[45]⟩ w
  obtain ⟨h1, h2⟩ := num_split S
  have hdl : (digS S).length ≤ 100000 := by
    unfold digS Lib.trimPrefix
    split
    · rw [List.length_drop]; omega
    · exact hl
  rw [h1]
  generalize digS S = D at *
  generalize negS S = neg at *
  have HB : Below w.heap.size w w := Below.refl _ _
  unfold tx
  obtain ⟨d, hd⟩ : ∃ d, bs D = d := ⟨_, rfl⟩
  have hE : d.toList.isEmpty = D.isEmpty := by rw [← hd, bs_list]
  have hsz : d.size = D.length := by rw [← hd]; rfl
  cases D with
  | nil =>
    have HX := Lib.hid (numX_bad (neg := neg) (d := []) (fun h => h.1 rfl))
    have hE : d.toList.isEmpty = true := hE
    clear h1 h2 hsz
    rw [hd] at HK
    generalize numX neg [] = r at *
    go_enter Tryd.func13, Tryd.ntmps13
    go_wp2_with (first
      | (go_at_call 38; refine (HK _).mono ?_; rintro e w' ⟨rfl, rfl⟩))
    go_ret2
    exact ⟨by rw [HX.out]; rfl, HB⟩
  | cons a t =>
    have hE : d.toList.isEmpty = false := hE
    have hp : 0 < d.size := by rw [hsz]; simp
    have hx : d[0] = a := by subst hd; rfl
    have hq : ((bs S).toList == [48]) = decide (S = [48]) := by have := bs_beq S [48]; rw [bs_list [48]] at this; exact this
    obtain ⟨cap, w1, hconv, hB1, hg1, hcells⟩ := conv_bytes (a :: t) w
    rw [hd] at HK hconv
    by_cases hbad : a = 48 ∧ S ≠ [48]
    · have hb48 : (d[0].toNat : Int) = 48 := by rw [hx, hbad.1]; rfl
      rw [decide_eq_false hbad.2] at hq
      have HX : Hid (numX neg (a :: t) = none) := by
        show _ = _
        rw [hbad.1]
        cases neg
        · have e := h2 rfl
          rw [hbad.1] at e
          refine numX_bad (fun h => ?_)
          have := h.2.2 rfl
          refine hbad.2 ?_
          rw [← e]
          cases t with
          | nil => rfl
          | cons b t => simp at this
        · exact numX_nought rfl
      clear hconv hB1 hg1 hcells h1 h2 hbad hx hsz hd
      generalize numX neg (a :: t) = r at *
      go_enter Tryd.func13, Tryd.ntmps13
      go_wp2_with (first
        | (go_at_call 38; refine (HK _).mono ?_; rintro e w' ⟨rfl, rfl⟩))
      all_goals
        go_ret2
        exact ⟨by rw [HX.out]; rfl, HB⟩
    have HEnd : Hid ((∀ c ∈ a :: t, isDig c = true) → valD (a :: t) ≤ 9223372036854775808 → numX neg (a :: t) = if neg then some (-(valD (a :: t) : Int)) else if valD (a :: t) = 9223372036854775808 then none else some (valD (a :: t) : Int)) := by
      intro ha hv
      have hone : a = 48 → neg = false ∧ t = [] := fun e => by
        have hS : S = [48] := Classical.byContradiction fun h => hbad ⟨e, h⟩
        cases hn : neg with
        | false => exact ⟨rfl, by have := h2 hn; rw [hS] at this; exact (List.cons.inj this).2⟩
        | true =>
          exfalso
          rw [hS, hn, e] at h1
          rw [numX_nought rfl] at h1
          exact absurd h1 (by decide)
      refine numX_end ⟨List.cons_ne_nil _ _, ha, fun h => ?_⟩ hv (fun hn h => ?_)
      · obtain ⟨_, ht⟩ := hone (Option.some.inj h)
        rw [ht]; rfl
      · obtain ⟨hf, _⟩ := hone (Option.some.inj h)
        rw [hn] at hf
        cases hf
    have HBad : Hid (¬ (∀ c ∈ a :: t, isDig c = true) → numX neg (a :: t) = none) := fun h => numX_bad (fun h' => h h'.2.1)
    have HBig : Hid (9223372036854775808 < valD (a :: t) → numX neg (a :: t) = none) := fun h => numX_big h
    have hgo : (a = 48 ∧ S = [48]) ∨ a ≠ 48 := by
      by_cases e : a = 48
      · exact .inl ⟨e, Classical.byContradiction fun h => hbad ⟨e, h⟩⟩
      · exact .inr e
    have HC := Lib.hid hcells
    clear h1 h2 hbad hd hcells
    go_enter Tryd.func13, Tryd.ntmps13
    rcases hgo with ⟨e1, e2⟩ | e1
    case' inl =>
      have hb48 : (d[0].toNat : Int) = 48 := by rw [hx, e1]; rfl
      rw [decide_eq_true e2] at hq
      clear e2
    case' inr =>
      have hb48 : ((d[0].toNat : Int) == 48) = false := by
        rw [hx, beq_eq_false_iff_ne]
        intro e
        exact e1 (UInt8.toNat_inj.1 (show _ = 48 by omega))
    all_goals
      clear e1 hx
      have hlz : (a :: t).length ≤ 100000 := hdl
      generalize a :: t = D at *
      go_upto_region 5 with (first
        | (go_at_call 38; refine (HK _).mono ?_; rintro e w' ⟨rfl, rfl⟩))
      clear hb48 hE hq HK hp
      go_wp2
      go_loop [6, 29] (fun n i => ∃ (k : Nat) (N : Int), i = .int .i64 k ∧ n = .int .i64 N ∧ k ≤ D.length ∧ Hid (-N = (valD (D.take k) : Int) ∧ ∀ c ∈ D.take k, isDig c = true) ∧ -9223372036854775808 ≤ N ∧ N ≤ 0) (fun _ i => D.length - (intOf i).toNat)
      case atStart => exact ⟨0, 0, rfl, rfl, Nat.zero_le _, ⟨rfl, fun c hc => by cases hc⟩, by decide, by decide⟩
      case round =>
        obtain ⟨k, N, rfl, rfl, hk, HN, hN0, hN1⟩ := hrel
        by_cases hlt : k < D.length
        · have hc := HC.out k hlt
          have hltI : (k : Int) < D.length := by omega
          obtain ⟨c, hcc⟩ : ∃ c, D[k] = c := ⟨_, rfl⟩
          rw [hcc] at hc
          obtain ⟨X, hX⟩ : ∃ X : Int, (c.toNat : Int) = X := ⟨_, rfl⟩
          have hX0 : 0 ≤ X ∧ X < 256 := by have := c.toNat_lt; omega
          have hts : D.take (k + 1) = D.take k ++ [c] := by rw [List.take_succ_eq_append_getElem hlt, hcc]
          have hmem : c ∈ D := by rw [← hcc]; exact List.getElem_mem hlt
          have HX1 : Hid ((X < 48 ∨ 57 < X) → numX neg D = none) := fun h => HBad.out (fun ha => by
            have := of_decide_eq_true (ha c hmem)
            omega)
          have HX2 : Hid (48 ≤ X → X ≤ 57 → 10 * N - (X - 48) < -9223372036854775808 → numX neg D = none) := fun a1 a2 h => HBig.out (by
            have hm := valD_mono (D.take (k + 1)) (D.drop (k + 1))
            rw [List.take_append_drop, hts, valD_snoc] at hm
            have := HN.out.1
            omega)
          have HX3 : Hid (48 ≤ X → X ≤ 57 → -(10 * N - (X - 48)) = (valD (D.take (k + 1)) : Int) ∧ ∀ c ∈ D.take (k + 1), isDig c = true) := fun a1 a2 => by
            refine ⟨?_, ?_⟩
            · rw [hts, valD_snoc]
              have := HN.out.1
              omega
            · intro y hy
              rw [hts] at hy
              rcases List.mem_append.1 hy with h | h
              · exact HN.out.2 y h
              · rw [List.mem_singleton.1 h]; exact decide_eq_true (by omega)
          rw [hX] at hc
          clear hX hts hmem hcc HN
          have e1 : wrap64 X = X := wrap64_of ⟨by omega, by omega⟩
          have e2 : wrap64 (X - 48) = X - 48 := wrap64_of ⟨by omega, by omega⟩
          by_cases g1 : X < 48
          · have b1 : decide (X - 48 < 0) = true := decide_eq_true (by omega)
            have HR := Lib.hid (HX1.out (.inl g1))
            clear HX1 HX2 HX3 HBad HBig HEnd
            go_wp2
            go_ret2
            exact ⟨by rw [HR.out]; rfl, hB1⟩
          · have b1 : decide (X - 48 < 0) = false := decide_eq_false (by omega)
            by_cases g2 : 57 < X
            · have b2 : decide (9 < X - 48) = true := decide_eq_true (by omega)
              have HR := Lib.hid (HX1.out (.inr g2))
              clear HX1 HX2 HX3 HBad HBig HEnd
              go_wp2
              go_ret2
              exact ⟨by rw [HR.out]; rfl, hB1⟩
            · have b2 : decide (9 < X - 48) = false := decide_eq_false (by omega)
              have h4 := Lib.hid (HX2.out (by omega) (by omega))
              have h5 := Lib.hid (HX3.out (by omega) (by omega))
              clear HX1 HX2 HX3 HBad HBig
              obtain ⟨Y, hY⟩ : ∃ Y, X - 48 = Y := ⟨_, rfl⟩
              rw [hY] at e2 b1 b2 h4 h5
              have hY0 : 0 ≤ Y ∧ Y ≤ 9 := by omega
              clear g1 g2
              have hQ : (-9223372036854775808 + Y).tdiv 10 = -((9223372036854775808 - Y) / 10) := by rw [show -9223372036854775808 + Y = -(9223372036854775808 - Y) by omega, Int.neg_tdiv, Int.tdiv_eq_ediv_of_nonneg (by omega)]
              obtain ⟨Q, hQQ⟩ : ∃ Q, -((9223372036854775808 - Y) / 10) = Q := ⟨_, rfl⟩
              rw [hQQ] at hQ
              have e6 : wrap64 Q = Q := wrap64_of ⟨by omega, by omega⟩
              by_cases g3 : N < Q
              · have b3 : decide (N < Q) = true := decide_eq_true g3
                have HR := Lib.hid (h4.out (by omega))
                clear h4 h5 HEnd hQQ g3
                go_wp2
                go_ret2
                exact ⟨by rw [HR.out]; rfl, hB1⟩
              · have b3 : decide (N < Q) = false := decide_eq_false g3
                have hM : -9223372036854775808 ≤ 10 * N - Y ∧ 10 * N - Y ≤ 0 := by omega
                have e3 : wrap64 (10 * N) = 10 * N := wrap64_of ⟨by omega, by omega⟩
                have e4 : wrap64 (10 * N - Y) = 10 * N - Y := wrap64_of ⟨by omega, by omega⟩
                clear h4 hQQ g3
                go_wp2
                exact ⟨⟨k + 1, 10 * N - Y, by go_num, rfl, by omega, h5, hM.1, hM.2⟩, by simp [intOf]; omega⟩
        · obtain rfl : k = D.length := by omega
          have hE := HN.out
          rw [List.take_length] at hE
          have hv := HEnd.out hE.2 (by have := hE.1; omega)
          have hD := hE.1
          clear HBad HBig HEnd HN hE
          cases neg
          · have e5 : wrap64 (-N) = if N = -9223372036854775808 then -9223372036854775808 else -N := by
              by_cases e : N = -9223372036854775808
              · rw [if_pos e, e]; unfold wrap64; omega
              · rw [if_neg e]; exact wrap64_of ⟨by omega, by omega⟩
            by_cases e : N = -9223372036854775808
            · rw [if_neg (by decide), if_pos (by omega)] at hv
              have HR := Lib.hid hv
              subst e
              clear hv hD e5
              go_wp2
              go_ret2
              exact ⟨by rw [HR.out]; rfl, hB1⟩
            · rw [if_neg (by decide), if_neg (by omega)] at hv
              rw [if_neg e, ] at e5
              have be : (N == -9223372036854775808) = false := by simpa using e
              rw [← hD] at hv
              have HR := Lib.hid hv
              clear hv hD e
              go_wp2
              go_ret2
              exact ⟨by rw [HR.out]; rfl, hB1⟩
          · rw [if_pos rfl, ← hD, Int.neg_neg] at hv
            have HR := Lib.hid hv
            clear hv hD
            go_wp2
            go_ret2
            exact ⟨by rw [HR.out]; rfl, hB1⟩
end Go.Proofs.YtdpbiboldmoadaaDoor
