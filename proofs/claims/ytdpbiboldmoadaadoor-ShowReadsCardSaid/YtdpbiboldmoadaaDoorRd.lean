/- The document's Digits, Number, Register, Set. -/
import Derived.Test.YtdpbiboldmoadaaDoorRows
import Derived.Test.YtdpbiboldmoadaaDoorDg
import Derived.WalkKit
import Derived.WalkLawsBesides
import Derived.Deep.QuietTactic
import Derived.BigQuiet
import Derived.WalkSmall
import Derived.WalkSpells
import Derived.Lib.Hide
import Derived.Below
import Derived.LoopTactic
import Derived.Deep.LoopGhost
import Derived.Outline
set_option maxRecDepth 100000
namespace Go.Proofs.YtdpbiboldmoadaaDoor
open Go.RowKit

theorem conv_one (w1 : World) (m : Nat) (h : m < 10) : (convert 44 9 (.slice (some ⟨w1.heap.size, 0, none⟩) 1 1)).run Tryd.prog (w1.alloc (.cells #[.int .u8 (48 + m)] 5)) = .ok (tx [dig m]) (w1.alloc (.cells #[.int .u8 (48 + m)] 5)) := by
  refine run_convert_bytes_back (P := Tryd.prog) _ 44 9 5 ⟨w1.heap.size, 0, none⟩ 1 [dig m] (by kernel_rfl) (by kernel_rfl) (by kernel_rfl) ?_
  intro j hj
  obtain rfl : j = 0 := by simpa using hj
  simp [Addr.add, dig_toNat h]
theorem rdigits_any (n : Int) (h : I64 n) (w : World) : Calls Tryd.prog 17 #[.int .i64 n] w fun e w' => e = .returned (tx (digI n)) ∧ BW w w' := by
  have HB : BW w w := Below.refl _ _
  unfold I64 at h
  have hM : n.natAbs ≤ 9223372036854775808 := by omega
  have HV : Hid (digI n = if n < 0 then 45 :: digU n.natAbs else digU n.natAbs) := rfl
  have HC := fun w1 m hm => conv_one w1 m hm
  go_enter Tryd.func17, Tryd.ntmps17
  have hD : Hid (∀ N : Nat, N ≤ 9223372036854775808 → ∀ (M : Nat) (S : List UInt8), digU N = digU M ++ S → M ≤ 9223372036854775808 → S.length ≤ 20 ∧ (M / 10 = 0 → digU N = dig (M % 10) :: S) ∧ (M / 10 ≠ 0 → digU N = digU (M / 10) ++ (dig (M % 10) :: S))) := by
    intro N hN M S hd hm
    refine ⟨?_, fun h => ?_, fun h => ?_⟩
    · have h1 := congrArg List.length hd
      have h2 := digF_len 20 N
      unfold digU at h1
      rw [List.length_append] at h1
      omega
    · rw [hd, digU_one (by omega), show M % 10 = M by omega]; rfl
    · rw [hd, digU_step (by omega) (by omega), List.append_assoc]; rfl
  by_cases hn : n < 0
  · have e1 : IntKind.u64.wrap (-IntKind.u64.wrap n) = (n.natAbs : Int) := by rw [IntKind.wrap_u64, IntKind.wrap_u64]; omega
    go_wp2
    try rw [e1]
    obtain ⟨N, hN⟩ : ∃ N, n.natAbs = N := ⟨_, rfl⟩
    have hV : digI n = 45 :: digU N := by rw [HV.out, if_pos hn, hN]
    rw [hN] at hM ⊢
    clear e1 HV hN
    go_loopw [3, 4] (fun s m wr => BW w wr ∧ ∃ (M : Nat) (S : List UInt8), s = .string (bs S) ∧ m = .int .u64 M ∧ digU N = digU M ++ S ∧ M ≤ 9223372036854775808) (fun _ m _ => (intOf m).toNat)
    case atStart => exact ⟨HB, N, [], rfl, rfl, (List.append_nil _).symm, hM⟩
    case round =>
      obtain ⟨HR, M, S, rfl, rfl, hd, hm⟩ := hrel
      have hc := HC wr (M % 10) (by omega)
      rw [show ((M % 10 : Nat) : Int) = (M : Int) % 10 by omega] at hc
      obtain ⟨hl, g1, g2⟩ := hD.out N hM M S hd hm
      have HB1 := BW.new HR (.cells #[.int .u8 (48 + (M : Int) % 10)] 5)
      have ha : ∀ w2 : World, (Op.stringOp .add (bs [dig (M % 10)]) (bs S)).run Tryd.prog w2 = .ok (.string (bs (dig (M % 10) :: S))) w2 := fun w2 => run_string_add_lists w2 [dig (M % 10)] S (by simp) (by omega)
      have hb : ∀ w2 : World, (Op.stringOp .add (⟨#[45]⟩ : ByteArray) (bs (dig (M % 10) :: S))).run Tryd.prog w2 = .ok (.string (bs (45 :: (dig (M % 10) :: S)))) w2 := fun w2 => run_string_add_lists w2 [45] (dig (M % 10) :: S) (by simp) (by simp; omega)
      unfold tx at hc
      generalize dig (M % 10) = c at *
      have G1 := Lib.hid g1
      have G2 := Lib.hid g2
      have HD := Lib.hid hd
      clear g1 g2 hd hD HC
      by_cases hq : M / 10 = 0
      · have hz : ((M : Int) / 10 == 0) = true := by simp; omega
        have hv := G1.out hq
        go_wp2
        go_ret
        exact ⟨by rw [hV, hv]; rfl, HB1⟩
      · have hz : ((M : Int) / 10 == 0) = false := by simp; omega
        go_wp2
        exact ⟨⟨HB1, M / 10, c :: S, rfl, by rw [Int.natCast_ediv]; rfl, G2.out hq, by omega⟩, by simp [intOf]; omega⟩
  · have e1 : IntKind.u64.wrap n = (n.natAbs : Int) := by rw [IntKind.wrap_u64]; omega
    go_wp2
    try rw [e1]
    obtain ⟨N, hN⟩ : ∃ N, n.natAbs = N := ⟨_, rfl⟩
    have hV : digI n = digU N := by rw [HV.out, if_neg (by omega), hN]
    rw [hN] at hM ⊢
    clear e1 HV hN
    go_loopw [3, 4] (fun s m wr => BW w wr ∧ ∃ (M : Nat) (S : List UInt8), s = .string (bs S) ∧ m = .int .u64 M ∧ digU N = digU M ++ S ∧ M ≤ 9223372036854775808) (fun _ m _ => (intOf m).toNat)
    case atStart => exact ⟨HB, N, [], rfl, rfl, (List.append_nil _).symm, hM⟩
    case round =>
      obtain ⟨HR, M, S, rfl, rfl, hd, hm⟩ := hrel
      have hc := HC wr (M % 10) (by omega)
      rw [show ((M % 10 : Nat) : Int) = (M : Int) % 10 by omega] at hc
      obtain ⟨hl, g1, g2⟩ := hD.out N hM M S hd hm
      have HB1 := BW.new HR (.cells #[.int .u8 (48 + (M : Int) % 10)] 5)
      have ha : ∀ w2 : World, (Op.stringOp .add (bs [dig (M % 10)]) (bs S)).run Tryd.prog w2 = .ok (.string (bs (dig (M % 10) :: S))) w2 := fun w2 => run_string_add_lists w2 [dig (M % 10)] S (by simp) (by omega)
      unfold tx at hc
      generalize dig (M % 10) = c at *
      have G1 := Lib.hid g1
      have G2 := Lib.hid g2
      have HD := Lib.hid hd
      clear g1 g2 hd hD HC
      by_cases hq : M / 10 = 0
      · have hz : ((M : Int) / 10 == 0) = true := by simp; omega
        have hv := G1.out hq
        go_wp2
        go_ret
        exact ⟨by rw [hV, hv]; rfl, HB1⟩
      · have hz : ((M : Int) / 10 == 0) = false := by simp; omega
        go_wp2
        exact ⟨⟨HB1, M / 10, c :: S, rfl, by rw [Int.natCast_ediv]; rfl, G2.out hq, by omega⟩, by simp [intOf]; omega⟩

/-! ### Number -/
theorem take_snoc (s : ByteArray) (k : Nat) (h : k < s.size) : s.data.toList.take (k + 1) = s.data.toList.take k ++ [s[k]] := by
  rw [List.take_succ_eq_append_getElem (by simpa using h)]; rfl
def retO (o : Option Int) : Value := .tuple #[.int .i64 (o.getD 0), .bool o.isSome]
def numN (d : List UInt8) : Option Int := if DigT d ∧ d.length ≤ 19 ∧ d.head? ≠ some 48 ∧ valD d ≤ 9223372036854775808 then some (-(valD d : Int)) else none
def numP (d : List UInt8) : Option Int := if DigT d ∧ d.length ≤ 19 ∧ valD d < 9223372036854775808 then some (valD d : Int) else none
def numX (neg : Bool) (d : List UInt8) : Option Int := if neg then numN d else numP d
theorem valD_lt (l : List UInt8) : (∀ c ∈ l, isDig c = true) → l.length ≤ 19 → valD l < 10 ^ l.length := by
  refine snoc_ind (P := fun l => (∀ c ∈ l, isDig c = true) → l.length ≤ 19 → valD l < 10 ^ l.length) (fun _ _ => by decide) ?_ l
  intro l c ih h hl
  rw [List.length_append] at hl
  have h1 := ih (fun c hc => h c (List.mem_append_left _ hc)) (by simp at hl; omega)
  have h2 := of_decide_eq_true (h c (List.mem_append_right _ (List.mem_singleton.2 rfl)))
  rw [valD_snoc, List.length_append]
  show _ < 10 ^ (l.length + 1)
  rw [Nat.pow_succ]
  omega
theorem numX_long {neg : Bool} {d : List UInt8} (h : 19 < d.length) : numX neg d = none := by
  cases neg
  · show numP d = none
    unfold numP
    rw [if_neg (fun h' => by omega)]
  · show numN d = none
    unfold numN
    rw [if_neg (fun h' => by omega)]
theorem numX_bad {neg : Bool} {d : List UInt8} (h : ¬ DigT d) : numX neg d = none := by
  cases neg
  · show numP d = none
    unfold numP
    rw [if_neg (fun h' => h h'.1)]
  · show numN d = none
    unfold numN
    rw [if_neg (fun h' => h h'.1)]
theorem numX_nought {d : List UInt8} (h : d.head? = some 48) : numX true d = none := by
  show numN d = none
  unfold numN
  rw [if_neg (fun h' => h'.2.2.1 h)]
theorem numX_good {neg : Bool} {d : List UInt8} (hT : DigT d) (hl : d.length ≤ 19) (h48 : neg = true → d.head? ≠ some 48) :
    numX neg d = if 9223372036854775808 < valD d ∨ (valD d = 9223372036854775808 ∧ neg = false) then none else if neg then some (-(valD d : Int)) else some (valD d : Int) := by
  cases neg
  · show numP d = _
    unfold numP
    by_cases h : valD d < 9223372036854775808
    · rw [if_pos ⟨hT, hl, h⟩, if_neg (by simp; omega)]; rfl
    · rw [if_neg (fun h' => h h'.2.2), if_pos (by simp; omega)]
  · show numN d = _
    unfold numN
    by_cases h : valD d ≤ 9223372036854775808
    · rw [if_pos ⟨hT, hl, h48 rfl, h⟩, if_neg (by simp; omega)]; rfl
    · rw [if_neg (fun h' => h h'.2.2.2), if_pos (by simp; omega)]
theorem numT_good {d : List UInt8} (hT : DigT d) (hl : d.length ≤ 19) (h48 : d.head? ≠ some 48) : numX true d = if 9223372036854775808 < valD d then none else some (-(valD d : Int)) := by
  rw [numX_good hT hl (fun _ => h48)]
  by_cases h : 9223372036854775808 < valD d
  · rw [if_pos (.inl h), if_pos h]
  · rw [if_neg (by rintro (h' | ⟨_, h'⟩); exact h h'; cases h'), if_neg h]; rfl
theorem numF_good {d : List UInt8} (hT : DigT d) (hl : d.length ≤ 19) : numX false d = if 9223372036854775808 ≤ valD d then none else some (valD d : Int) := by
  rw [numX_good hT hl (fun h => by cases h)]
  by_cases h : 9223372036854775808 ≤ valD d
  · rw [if_pos (by simp; omega), if_pos h]
  · rw [if_neg (by rintro (h' | ⟨h', _⟩) <;> omega), if_neg h]; rfl
theorem len_toList (q : ByteArray) : q.data.toList.length = q.size := rfl
theorem head_toList {q : ByteArray} (h : 0 < q.size) : q.data.toList.head? = some q[0] := by
  rw [List.head?_eq_getElem?, List.getElem?_eq_getElem (by rw [len_toList]; exact h)]
  rfl
theorem tail_toList (q : ByteArray) : (q.extract 1 q.size).data.toList = q.data.toList.tail := by
  rw [ByteArray.data_extract, Array.toList_extract]
  show List.extract _ 1 q.data.size = _
  unfold List.extract
  rw [List.drop_one, List.take_of_length_le (by rw [List.length_tail, Array.length_toList]; exact Nat.le_refl _)]
theorem digT_of {d : List UInt8} (hne : d ≠ []) (ha : ∀ c ∈ d, isDig c = true) (h : d.head? = some 48 → d.length = 1) : DigT d := ⟨hne, ha, h⟩
set_option maxHeartbeats 1000000 in
set_option maxRecDepth 10000 in
theorem rnumber_any (q : ByteArray) (w : World) : Calls Tryd.prog 14 #[.string q] w fun e w' => e = .returned (retO (numV q.data.toList)) ∧ w = w' := by
  have hlen := len_toList q
  by_cases h0 : q.size = 0
  · have hq : q.data.toList = [] := List.length_eq_zero_iff.1 (by omega)
    have hz : (q.size : Int) = 0 := by omega
    rw [hq]
    clear hlen hq
    go_enter Tryd.func14, Tryd.ntmps14
    go_wp2
    go_ret2
    exact ⟨rfl, rfl⟩
  · have hp : 0 < q.size := by omega
    have hh := head_toList hp
    obtain ⟨neg, d, HX, hcase⟩ : ∃ (neg : Bool) (d : ByteArray), Hid (numV q.data.toList = numX neg d.data.toList) ∧ ((neg = true ∧ (q[0].toNat : Int) = 45 ∧ d = q.extract 1 q.size) ∨ (neg = false ∧ ((q[0].toNat : Int) == 45) = false ∧ d = q)) := by
      by_cases h45 : q[0] = 45
      · refine ⟨true, q.extract 1 q.size, ?_, .inl ⟨rfl, by rw [h45]; rfl, rfl⟩⟩
        rw [tail_toList]
        show numV _ = numN _
        unfold numV numN
        rw [if_pos (by rw [hh, h45])]
      · refine ⟨false, q, ?_, .inr ⟨rfl, ?_, rfl⟩⟩
        · show numV _ = numP _
          unfold numV numP
          rw [if_neg (by rw [hh]; intro e; exact h45 (Option.some.inj e))]
        · rw [beq_eq_false_iff_ne]
          intro e
          apply h45
          apply UInt8.toNat_inj.1
          show _ = 45
          omega
    clear hh hlen
    go_enter Tryd.func14, Tryd.ntmps14
    rcases hcase with ⟨rfl, hb, hd⟩ | ⟨rfl, hb, hd⟩
    all_goals
      go_upto_region 6 with fail
      generalize (q[0].toNat : Int) = c0 at *
      rw [← hd]
      clear hd hp h0
      have hlen := len_toList d
    all_goals
      by_cases z0 : d.size = 0
      · have hz : ((d.size : Int) == 0) = true := by simpa using z0
        have hv := fun neg => numX_bad (neg := neg) (d := d.data.toList) (fun h => h.1 (List.length_eq_zero_iff.1 (hlen.trans z0)))
        rw [hv] at HX
        clear hlen hv z0
        go_wp2
        go_ret2
        exact ⟨by rw [HX.out]; rfl, rfl⟩
      have zp : 0 < d.size := by omega
      have hz : ((d.size : Int) == 0) = false := by simpa using z0
      clear z0
      by_cases z19 : 19 < d.size
      · have hv := fun neg => numX_long (neg := neg) (d := d.data.toList) (by omega)
        rw [hv] at HX
        have hz19 : decide (19 < (d.size : Int)) = true := decide_eq_true (by omega)
        clear hlen hv
        go_wp2
        go_ret2
        exact ⟨by rw [HX.out]; rfl, rfl⟩
      have zz : d.size ≤ 19 := by omega
      have hz19 : decide (19 < (d.size : Int)) = false := decide_eq_false (by omega)
      clear z19
      have hh := head_toList zp
      obtain ⟨c, hc⟩ : ∃ c, d[0] = c := ⟨_, rfl⟩
      rw [hc] at hh
      have HB := fun neg => Lib.hid (fun h => numX_bad (neg := neg) (d := d.data.toList) h)
      first
        | (have hv := fun h48 => numX_nought (d := d.data.toList) h48
           have HG := Lib.hid (fun (ha : ∀ c ∈ d.data.toList, isDig c = true) (h48 : d.data.toList.head? ≠ some 48) => numT_good (d := d.data.toList) ⟨fun e => by rw [e] at hlen; simp at hlen; omega, ha, fun e => absurd e h48⟩ (by omega) h48)
           have HB' := HB true
           rw [← HX.out] at hv HG HB'
           clear HB
           by_cases c48 : c = 48
           case pos =>
             have hb48 : (d[0].toNat : Int) = 48 := by rw [hc, c48]; rfl
             have hr := hv (by rw [hh, c48])
             clear hh hc c48 HG HB' hv HX hlen
             have HR := Lib.hid hr
             clear hr
             go_wp2
             all_goals
               go_ret2
               exact ⟨by rw [HR.out]; rfl, rfl⟩
           have hb48 : ((d[0].toNat : Int) == 48) = false := by
             rw [hc, beq_eq_false_iff_ne]
             intro e
             exact c48 (UInt8.toNat_inj.1 (show _ = 48 by omega))
           have HG' : Hid ((∀ c ∈ d.data.toList, isDig c = true) → numV q.data.toList = if 9223372036854775808 < valD d.data.toList then none else some (-(valD d.data.toList : Int))) :=
             fun ha => HG.out ha (by rw [hh]; intro e; exact c48 (Option.some.inj e))
           clear hh hc c48 HG hv
           go_upto_region 8 with fail)
        | (have HG := Lib.hid (fun (ha : ∀ c ∈ d.data.toList, isDig c = true) (h48 : d.data.toList.head? = some 48 → d.data.toList.length = 1) => numF_good (d := d.data.toList) ⟨fun e => by rw [e] at hlen; simp at hlen; omega, ha, h48⟩ (by omega))
           have HB' := HB false
           rw [← HX.out] at HG HB'
           clear HB
           by_cases bad : c = 48 ∧ d.size ≠ 1
           case pos =>
             have hb48 : (d[0].toNat : Int) = 48 := by rw [hc, bad.1]; rfl
             have hs1 : decide (1 < (d.size : Int)) = true := decide_eq_true (by omega)
             have hr := HB'.out (fun h => bad.2 (hlen ▸ h.2.2 (by rw [hh, bad.1])))
             clear hh hc bad HG HB' HX hlen
             have HR := Lib.hid hr
             clear hr
             go_wp2
             go_ret2
             exact ⟨by rw [HR.out]; rfl, rfl⟩
           have HG' : Hid ((∀ c ∈ d.data.toList, isDig c = true) → numV q.data.toList = if 9223372036854775808 ≤ valD d.data.toList then none else some (valD d.data.toList : Int)) :=
             fun ha => HG.out ha (fun h => by
               rw [hh] at h
               have h := Option.some.inj h
               by_cases s1 : d.size = 1
               · omega
               · exact absurd ⟨h, s1⟩ bad)
           clear HG
           by_cases c48 : c = 48
           case' pos =>
             have hb48 : (d[0].toNat : Int) = 48 := by rw [hc, c48]; rfl
             have hs1 : decide (1 < (d.size : Int)) = false := decide_eq_false (by
               by_cases s1 : d.size = 1
               · omega
               · exact absurd ⟨c48, s1⟩ bad)
           case' neg =>
             have hb48 : ((d[0].toNat : Int) == 48) = false := by
               rw [hc, beq_eq_false_iff_ne]
               intro e
               exact c48 (UInt8.toNat_inj.1 (show _ = 48 by omega))
           all_goals
             clear hh hc c48 bad
             go_upto_region 8 with fail)
    all_goals
      clear HX
      go_wp2
      go_loop [6, 7] (fun n i => ∃ k : Nat, ∃ N : Int, k ≤ d.size ∧ i = .int .i64 k ∧ n = .int .u64 N ∧ Hid (N = valD (d.data.toList.take k) ∧ ∀ c ∈ d.data.toList.take k, isDig c = true) ∧ 0 ≤ N ∧ N < 10000000000000000000) (fun _ i => d.size - (intOf i).toNat)
      case atStart => exact ⟨0, 0, Nat.zero_le _, rfl, rfl, ⟨rfl, fun c hc => by cases hc⟩, by decide, by decide⟩
      case round =>
        obtain ⟨k, N, hk, rfl, rfl, HN, hN0, hN1⟩ := hrel
        by_cases hlt : k < d.size
        · have hts := take_snoc d k hlt
          have HK : Hid (isDig d[k] = true → (∀ c ∈ d.data.toList.take (k + 1), isDig c = true) ∧ 10 * N + ((d[k].toNat : Int) - 48) = valD (d.data.toList.take (k + 1)) ∧ 10 * N + ((d[k].toNat : Int) - 48) < 10000000000000000000) := by
            intro hd
            have ha : ∀ c ∈ d.data.toList.take (k + 1), isDig c = true := by
              rw [hts]
              intro c hc
              rcases List.mem_append.1 hc with h | h
              · exact HN.out.2 c h
              · rw [List.mem_singleton.1 h]; exact hd
            have hv : 10 * N + ((d[k].toNat : Int) - 48) = valD (d.data.toList.take (k + 1)) := by
              rw [hts, valD_snoc, HN.out.1]
              have := of_decide_eq_true hd
              omega
            refine ⟨ha, hv, ?_⟩
            have hl : (d.data.toList.take (k + 1)).length = k + 1 := by rw [List.length_take]; omega
            have h1 := valD_lt _ ha (by omega)
            have h2 : (10 : Nat) ^ (d.data.toList.take (k + 1)).length ≤ 10 ^ 19 := Nat.pow_le_pow_right (by decide) (by omega)
            omega
          have HZ : Hid (isDig d[k] ≠ true → numV q.data.toList = none) := fun h => HB'.out (fun hT => h (hT.2.1 _ (List.getElem_mem _)))
          clear hts HB'
          by_cases c1 : (d[k].toNat : Int) < 48
          · have g1 : decide ((d[k].toNat : Int) < 48) = true := decide_eq_true c1
            have hr := HZ.out (by unfold isDig; intro h; have := of_decide_eq_true h; omega)
            clear HK HZ c1 HG'
            have HR := Lib.hid hr
            clear hr
            go_wp2
            go_ret2
            exact ⟨by rw [HR.out]; rfl, rfl⟩
          by_cases c2 : 57 < (d[k].toNat : Int)
          · have g1 : decide ((d[k].toNat : Int) < 48) = false := decide_eq_false c1
            have g2 : decide (57 < (d[k].toNat : Int)) = true := decide_eq_true c2
            have hr := HZ.out (by unfold isDig; intro h; have := of_decide_eq_true h; omega)
            clear HK HZ c1 c2 HG'
            have HR := Lib.hid hr
            clear hr
            go_wp2
            go_ret2
            exact ⟨by rw [HR.out]; rfl, rfl⟩
          · have g1 : decide ((d[k].toNat : Int) < 48) = false := decide_eq_false c1
            have g2 : decide (57 < (d[k].toNat : Int)) = false := decide_eq_false c2
            obtain ⟨k1, k2, k3⟩ := HK.out (by unfold isDig; rw [decide_eq_true_eq]; omega)
            have hx0 : 0 ≤ (d[k].toNat : Int) - 48 ∧ (d[k].toNat : Int) - 48 ≤ 9 := by omega
            have HK2 := Lib.hid (And.intro k2 k1)
            clear HK HZ c1 c2 HG' k1 k2
            go_wp2
            exact ⟨⟨k + 1, 10 * N + ((d[k].toNat : Int) - 48), by omega, by go_num, rfl, HK2, by omega, k3⟩, by simp [intOf]; omega⟩
        · obtain rfl : k = d.size := by omega
          have hT : d.data.toList.take d.size = d.data.toList := List.take_of_length_le (by omega)
          have hN := HN.out
          rw [hT] at hN
          have hr := HG'.out hN.2
          have hv := hN.1
          clear hN HN HG' HB' hT hlt hk
          by_cases e1 : 9223372036854775808 < N
          · have g1 : decide (9223372036854775808 < N) = true := decide_eq_true e1
            rw [if_pos (by omega)] at hr
            clear hv e1
            have HR := Lib.hid hr
            clear hr
            go_wp2
            go_ret2
            exact ⟨by rw [HR.out]; rfl, rfl⟩
          have g1 : decide (9223372036854775808 < N) = false := decide_eq_false e1
          have hw1 : IntKind.i64.wrap (IntKind.u64.wrap (-N)) = -N := by rw [IntKind.wrap_u64, IntKind.wrap_i64]; omega
          by_cases e2 : N = 9223372036854775808
          · have g2 : (N == 9223372036854775808) = true := by rw [e2]; rfl
            first
              | (rw [if_neg (by omega), ← hv] at hr
                 clear hv e1 e2
                 have HR := Lib.hid hr
                 clear hr
                 go_wp2
                 go_ret2
                 exact ⟨by rw [HR.out]; rfl, rfl⟩)
              | (rw [if_pos (by omega)] at hr
                 clear hv e1 e2
                 have HR := Lib.hid hr
                 clear hr
                 go_wp2
                 go_ret2
                 exact ⟨by rw [HR.out]; rfl, rfl⟩)
          · have g2 : (N == 9223372036854775808) = false := by rw [beq_eq_false_iff_ne]; exact e2
            have hw2 : IntKind.i64.wrap N = N := by rw [IntKind.wrap_i64]; omega
            rw [if_neg (by omega), ← hv] at hr
            clear hv e1
            have HR := Lib.hid hr
            clear hr
            go_wp2
            go_ret2
            exact ⟨by rw [HR.out]; rfl, rfl⟩

/-! ### Register -/
theorem regS_out (q : ByteArray) (h : q.size < 2 ∨ 3 < q.size ∨ ∃ h : 0 < q.size, q[0] ≠ 120) : regS q.data.toList = none := by
  have hlen := len_toList q
  unfold regS
  rw [if_neg]
  rintro ⟨h1, h2, h3⟩
  rcases h with h | h | ⟨hp, h⟩
  · omega
  · omega
  · rw [head_toList hp] at h3
    exact h (Option.some.inj h3)
theorem regS_in (q : ByteArray) (h1 : 2 ≤ q.size) (h2 : q.size ≤ 3) (h3 : q[0] = 120) : regS q.data.toList = match numV q.data.toList.tail with
    | some n => if 0 ≤ n ∧ n ≤ 31 then some n else none
    | none => none := by
  have hlen := len_toList q
  unfold regS
  rw [if_pos ⟨by omega, by omega, by rw [head_toList (by omega), h3]⟩]
  cases numV q.data.toList.tail <;> rfl
theorem rregister9_any (q : ByteArray) (w : World) : Calls Tryd.prog 16 #[.string q] w fun e w' => e = .returned (retO (regS q.data.toList)) ∧ w = w' := by
  have KN := fun x w => rnumber_any x w
  by_cases z2 : q.size < 2
  · have HR := Lib.hid (regS_out q (.inl z2))
    have g1 : decide ((q.size : Int) < 2) = true := decide_eq_true (by omega)
    clear z2 KN
    go_enter Tryd.func16, Tryd.ntmps16
    go_wp2
    go_ret2
    exact ⟨by rw [HR.out]; rfl, rfl⟩
  have g1 : decide ((q.size : Int) < 2) = false := decide_eq_false (by omega)
  by_cases z3 : 3 < q.size
  · have HR := Lib.hid (regS_out q (.inr (.inl z3)))
    have g2 : decide (3 < (q.size : Int)) = true := decide_eq_true (by omega)
    clear z2 z3 KN
    go_enter Tryd.func16, Tryd.ntmps16
    go_wp2
    go_ret2
    exact ⟨by rw [HR.out]; rfl, rfl⟩
  have g2 : decide (3 < (q.size : Int)) = false := decide_eq_false (by omega)
  have hp : 0 < q.size := by omega
  by_cases h0 : q[0] = 120
  · have hr := regS_in q (by omega) (by omega) h0
    have g3 : (q[0].toNat : Int) = 120 := by rw [h0]; rfl
    have KN1 := KN (q.extract 1 q.size)
    rw [tail_toList] at KN1
    clear h0 KN
    have hz : 1 ≤ q.size := by omega
    clear z2 z3
    generalize hnv : numV q.data.toList.tail = o at *
    cases o with
    | none =>
      have HR := Lib.hid hr
      clear hr hnv
      unfold retO at KN1
      go_enter Tryd.func16, Tryd.ntmps16
      go_wp2_with (first | (go_at_call 14; refine (KN1 _).mono ?_; rintro e w' ⟨rfl, rfl⟩))
      go_ret2
      exact ⟨by rw [HR.out]; rfl, rfl⟩
    | some n =>
      unfold retO at KN1
      clear hnv
      by_cases hn : 0 ≤ n ∧ n ≤ 31
      · have hr : regS q.data.toList = some n := by rw [hr]; exact if_pos hn
        have HR := Lib.hid hr
        have e1 : decide (n < 0) = false := decide_eq_false (by omega)
        have e2 : decide (31 < n) = false := decide_eq_false (by omega)
        clear hr hn
        go_enter Tryd.func16, Tryd.ntmps16
        go_wp2_with (first | (go_at_call 14; refine (KN1 _).mono ?_; rintro e w' ⟨rfl, rfl⟩))
        go_ret2
        exact ⟨by rw [HR.out]; rfl, rfl⟩
      · have hr : regS q.data.toList = none := by rw [hr]; exact if_neg hn
        have HR := Lib.hid hr
        clear hr
        by_cases hn0 : n < 0
        · have e1 : decide (n < 0) = true := decide_eq_true hn0
          clear hn hn0
          go_enter Tryd.func16, Tryd.ntmps16
          go_wp2_with (first | (go_at_call 14; refine (KN1 _).mono ?_; rintro e w' ⟨rfl, rfl⟩))
          go_ret2
          exact ⟨by rw [HR.out]; rfl, rfl⟩
        · have e1 : decide (n < 0) = false := decide_eq_false hn0
          have e2 : decide (31 < n) = true := decide_eq_true (by omega)
          clear hn hn0
          go_enter Tryd.func16, Tryd.ntmps16
          go_wp2_with (first | (go_at_call 14; refine (KN1 _).mono ?_; rintro e w' ⟨rfl, rfl⟩))
          go_ret2
          exact ⟨by rw [HR.out]; rfl, rfl⟩
  · have HR := Lib.hid (regS_out q (.inr (.inr ⟨hp, h0⟩)))
    have g3 : ((q[0].toNat : Int) != 120) = true := by
      simp only [bne_iff_ne]
      intro e
      exact h0 (UInt8.toNat_inj.1 (show _ = 120 by omega))
    clear h0 KN z2 z3
    go_enter Tryd.func16, Tryd.ntmps16
    go_wp2
    go_ret2
    exact ⟨by rw [HR.out]; rfl, rfl⟩

/-! ### Sets -/
theorem rset_any (n : Int) (h : 0 ≤ n ∧ n < 16) (w : World) : Calls Tryd.prog 31 #[.int .i64 n] w fun e w' => e = .returned (tx (setT n)) ∧ w = w' := by
  obtain rfl | rfl | rfl | rfl | rfl | rfl | rfl | rfl | rfl | rfl | rfl | rfl | rfl | rfl | rfl | rfl : n = 0 ∨ n = 1 ∨ n = 2 ∨ n = 3 ∨ n = 4 ∨ n = 5 ∨ n = 6 ∨ n = 7 ∨ n = 8 ∨ n = 9 ∨ n = 10 ∨ n = 11 ∨ n = 12 ∨ n = 13 ∨ n = 14 ∨ n = 15 := by omega
  all_goals
    have hA : ∀ y : List UInt8, (⟨#[]⟩ : ByteArray) ++ ⟨y.toArray⟩ = ⟨y.toArray⟩ := fun y => ByteArray.mk_append_mk [] y
    have hB : ∀ (a : UInt8) (y : List UInt8), (⟨#[a]⟩ : ByteArray) ++ ⟨y.toArray⟩ = ⟨(a :: y).toArray⟩ := fun a y => ByteArray.mk_append_mk [a] y
    have hC : ∀ (a b : UInt8) (y : List UInt8), (⟨#[a, b]⟩ : ByteArray) ++ ⟨y.toArray⟩ = ⟨(a :: b :: y).toArray⟩ := fun a b y => ByteArray.mk_append_mk [a, b] y
    have hD : ∀ (a b c : UInt8) (y : List UInt8), (⟨#[a, b, c]⟩ : ByteArray) ++ ⟨y.toArray⟩ = ⟨(a :: b :: c :: y).toArray⟩ := fun a b c y => ByteArray.mk_append_mk [a, b, c] y
    have hn : ∀ (a : UInt8) (y : List UInt8), (⟨(a :: y).toArray⟩ : ByteArray).toList.isEmpty = false := fun a y => by rw [ByteArray.toList_mk]; rfl
    go_enter Tryd.func31, Tryd.ntmps31
    go_wp2
    go_ret
    exact ⟨rfl, rfl⟩
theorem or_sets : ∀ m : Fin 16, bits .or .i64 (m.val : Int) 8 = ((m.val ||| 8 : Nat) : Int) ∧ bits .or .i64 (m.val : Int) 4 = ((m.val ||| 4 : Nat) : Int) ∧ bits .or .i64 (m.val : Int) 2 = ((m.val ||| 2 : Nat) : Int) ∧ bits .or .i64 (m.val : Int) 1 = ((m.val ||| 1 : Nat) : Int) := by decide +kernel
theorem or_lt (m : Nat) (h : m < 16) (k : Nat) (hk : k < 16) : m ||| k < 16 := Nat.or_lt_two_pow (n := 4) h hk
theorem bitOf_lt (c : UInt8) : bitOf c < 16 := by unfold bitOf; repeat (first | split | omega)
theorem bitsT_snoc (l : List UInt8) (c : UInt8) : bitsT (l ++ [c]) = bitsT l ||| bitOf c := by unfold bitsT; rw [List.foldl_append]; rfl
theorem bitsT_lt (l : List UInt8) : bitsT l < 16 := by
  refine snoc_ind (P := fun l => bitsT l < 16) (by decide) ?_ l
  intro l c h
  rw [bitsT_snoc]
  exact or_lt _ h _ (bitOf_lt c)
theorem rbits_any (q : ByteArray) (hq : q.size ≤ 9223372036854775807) (w : World) : Calls Tryd.prog 37 #[.string q] w fun e w' => e = .returned (.int .i64 (bitsT q.data.toList : Int)) ∧ w = w' := by
  have hlen := len_toList q
  go_enter Tryd.func37, Tryd.ntmps37
  go_wp2
  go_loop [3, 4] (fun n i => ∃ k : Nat, k ≤ q.size ∧ i = .int .i64 k ∧ n = .int .i64 (bitsT (q.data.toList.take k) : Int)) (fun _ i => q.size - (intOf i).toNat)
  case atStart => exact ⟨0, Nat.zero_le _, rfl, rfl⟩
  case round =>
    obtain ⟨k, hk, rfl, rfl⟩ := hrel
    by_cases hlt : k < q.size
    · have hts := take_snoc q k hlt
      have hv := bitsT_snoc (q.data.toList.take k) q[k]
      rw [← hts] at hv
      have hm := bitsT_lt (q.data.toList.take k)
      have HO := or_sets ⟨bitsT (q.data.toList.take k), hm⟩
      simp only at HO
      obtain ⟨o8, o4, o2, o1⟩ := HO
      have HV := Lib.hid hv
      clear hts hv hm
      generalize hgm : bitsT (q.data.toList.take k) = m at *
      clear hgm
      by_cases c1 : (q[k].toNat : Int) = 105
      · have hb : bitOf q[k] = 8 := by unfold bitOf; rw [if_pos (UInt8.toNat_inj.1 (show _ = 105 by omega))]
        rw [hb] at HV
        clear hb
        go_wp2
        exact ⟨⟨k + 1, by omega, by go_num, by rw [HV.out]⟩, by simp [intOf]; omega⟩
      have n1 : q[k] ≠ 105 := fun e => c1 (by rw [e]; rfl)
      have f1 : ((q[k].toNat : Int) == 105) = false := by rw [beq_eq_false_iff_ne]; exact c1
      by_cases c2 : (q[k].toNat : Int) = 111
      · have hb : bitOf q[k] = 4 := by unfold bitOf; rw [if_neg n1, if_pos (UInt8.toNat_inj.1 (show _ = 111 by omega))]
        rw [hb] at HV
        clear hb
        go_wp2
        exact ⟨⟨k + 1, by omega, by go_num, by rw [HV.out]⟩, by simp [intOf]; omega⟩
      have n2 : q[k] ≠ 111 := fun e => c2 (by rw [e]; rfl)
      have f2 : ((q[k].toNat : Int) == 111) = false := by rw [beq_eq_false_iff_ne]; exact c2
      by_cases c3 : (q[k].toNat : Int) = 114
      · have hb : bitOf q[k] = 2 := by unfold bitOf; rw [if_neg n1, if_neg n2, if_pos (UInt8.toNat_inj.1 (show _ = 114 by omega))]
        rw [hb] at HV
        clear hb
        go_wp2
        exact ⟨⟨k + 1, by omega, by go_num, by rw [HV.out]⟩, by simp [intOf]; omega⟩
      have n3 : q[k] ≠ 114 := fun e => c3 (by rw [e]; rfl)
      have f3 : ((q[k].toNat : Int) == 114) = false := by rw [beq_eq_false_iff_ne]; exact c3
      by_cases c4 : (q[k].toNat : Int) = 119
      · have hb : bitOf q[k] = 1 := by unfold bitOf; rw [if_neg n1, if_neg n2, if_neg n3, if_pos (UInt8.toNat_inj.1 (show _ = 119 by omega))]
        rw [hb] at HV
        clear hb
        go_wp2
        exact ⟨⟨k + 1, by omega, by go_num, by rw [HV.out]⟩, by simp [intOf]; omega⟩
      have n4 : q[k] ≠ 119 := fun e => c4 (by rw [e]; rfl)
      have f4 : ((q[k].toNat : Int) == 119) = false := by rw [beq_eq_false_iff_ne]; exact c4
      have hb : bitOf q[k] = 0 := by unfold bitOf; rw [if_neg n1, if_neg n2, if_neg n3, if_neg n4]
      rw [hb, Nat.or_zero] at HV
      clear hb
      go_wp2
      exact ⟨⟨k + 1, by omega, by go_num, by rw [HV.out]⟩, by simp [intOf]; omega⟩
    · obtain rfl : k = q.size := by omega
      go_wp2
      go_ret
      exact ⟨ret_int (by rw [List.take_of_length_le (by omega)]), rfl⟩
end Go.Proofs.YtdpbiboldmoadaaDoor
