/- The document's Digits, Number, Register, Set. -/
import Derived.Test.YtolmecnjolfjgaaGreatDoorRows
import Derived.Test.YtolmecnjolfjgaaGreatDoorDg
import Derived.WalkKit
import Derived.WalkLawsBesides
import Derived.Deep.QuietTactic
import Derived.BigQuiet
import Derived.WalkSmall
import Derived.WalkSpells
import Derived.Lib.Hide
import Derived.Below
import Derived.LoopTactic
import Derived.Deep.LoopGhost
import Derived.Outline
set_option maxRecDepth 100000
namespace Go.Proofs.YtolmecnjolfjgaaGreatDoor
open Go.RowKit

theorem conv_one (w1 : World) (m : Nat) (h : m < 10) : (convert 22 9 (.slice (some ⟨w1.heap.size, 0, none⟩) 1 1)).run Tryz.prog (w1.alloc (.cells #[.int .u8 (48 + m)] 5)) = .ok (tx [dig m]) (w1.alloc (.cells #[.int .u8 (48 + m)] 5)) := by
  refine run_convert_bytes_back (P := Tryz.prog) _ 22 9 5 ⟨w1.heap.size, 0, none⟩ 1 [dig m] (by kernel_rfl) (by kernel_rfl) (by kernel_rfl) ?_
  intro j hj
  obtain rfl : j = 0 := by simpa using hj
  simp [Addr.add, dig_toNat h]
theorem rdigits_any (n : Int) (h : I64 n) (w : World) : Calls Tryz.prog 37 #[.int .i64 n] w fun e w' => e = .returned (tx (digI n)) ∧ BW w w' := by
  have HB : BW w w := Below.refl _ _
  unfold I64 at h
  have hM : n.natAbs ≤ 9223372036854775808 := by omega
  have HV : Hid (digI n = if n < 0 then 45 :: digU n.natAbs else digU n.natAbs) := rfl
  have HC := fun w1 m hm => conv_one w1 m hm
  go_enter Tryz.func37, Tryz.ntmps37
  have hD : Hid (∀ N : Nat, N ≤ 9223372036854775808 → ∀ (M : Nat) (S : List UInt8), digU N = digU M ++ S → M ≤ 9223372036854775808 → S.length ≤ 20 ∧ (M / 10 = 0 → digU N = dig (M % 10) :: S) ∧ (M / 10 ≠ 0 → digU N = digU (M / 10) ++ (dig (M % 10) :: S))) := by
    intro N hN M S hd hm
    refine ⟨?_, fun h => ?_, fun h => ?_⟩
    · have h1 := congrArg List.length hd
      have h2 := digF_len 20 N
      unfold digU at h1
      rw [List.length_append] at h1
      omega
    · rw [hd, digU_one (by omega), show M % 10 = M by omega]; rfl
    · rw [hd, digU_step (by omega) (by omega), List.append_assoc]; rfl
  by_cases hn : n < 0
  · have e1 : IntKind.u64.wrap (-IntKind.u64.wrap n) = (n.natAbs : Int) := by rw [IntKind.wrap_u64, IntKind.wrap_u64]; omega
    go_wp2
    try rw [e1]
    obtain ⟨N, hN⟩ : ∃ N, n.natAbs = N := ⟨_, rfl⟩
    have hV : digI n = 45 :: digU N := by rw [HV.out, if_pos hn, hN]
    rw [hN] at hM ⊢
    clear e1 HV hN
    go_loopw [3, 4] (fun s m wr => BW w wr ∧ ∃ (M : Nat) (S : List UInt8), s = .string (bs S) ∧ m = .int .u64 M ∧ digU N = digU M ++ S ∧ M ≤ 9223372036854775808) (fun _ m _ => (intOf m).toNat)
    case atStart => exact ⟨HB, N, [], rfl, rfl, (List.append_nil _).symm, hM⟩
    case round =>
      obtain ⟨HR, M, S, rfl, rfl, hd, hm⟩ := hrel
      have hc := HC wr (M % 10) (by omega)
      rw [show ((M % 10 : Nat) : Int) = (M : Int) % 10 by omega] at hc
      obtain ⟨hl, g1, g2⟩ := hD.out N hM M S hd hm
      have HB1 := BW.new HR (.cells #[.int .u8 (48 + (M : Int) % 10)] 5)
      have ha : ∀ w2 : World, (Op.stringOp .add (bs [dig (M % 10)]) (bs S)).run Tryz.prog w2 = .ok (.string (bs (dig (M % 10) :: S))) w2 := fun w2 => run_string_add_lists w2 [dig (M % 10)] S (by simp) (by omega)
      have hb : ∀ w2 : World, (Op.stringOp .add (⟨#[45]⟩ : ByteArray) (bs (dig (M % 10) :: S))).run Tryz.prog w2 = .ok (.string (bs (45 :: (dig (M % 10) :: S)))) w2 := fun w2 => run_string_add_lists w2 [45] (dig (M % 10) :: S) (by simp) (by simp; omega)
      unfold tx at hc
      generalize dig (M % 10) = c at *
      have G1 := Lib.hid g1
      have G2 := Lib.hid g2
      have HD := Lib.hid hd
      clear g1 g2 hd hD HC
      by_cases hq : M / 10 = 0
      · have hz : ((M : Int) / 10 == 0) = true := by simp; omega
        have hv := G1.out hq
        go_wp2
        go_ret
        exact ⟨by rw [hV, hv]; rfl, HB1⟩
      · have hz : ((M : Int) / 10 == 0) = false := by simp; omega
        go_wp2
        exact ⟨⟨HB1, M / 10, c :: S, rfl, by rw [Int.natCast_ediv]; rfl, G2.out hq, by omega⟩, by simp [intOf]; omega⟩
  · have e1 : IntKind.u64.wrap n = (n.natAbs : Int) := by rw [IntKind.wrap_u64]; omega
    go_wp2
    try rw [e1]
    obtain ⟨N, hN⟩ : ∃ N, n.natAbs = N := ⟨_, rfl⟩
    have hV : digI n = digU N := by rw [HV.out, if_neg (by omega), hN]
    rw [hN] at hM ⊢
    clear e1 HV hN
    go_loopw [3, 4] (fun s m wr => BW w wr ∧ ∃ (M : Nat) (S : List UInt8), s = .string (bs S) ∧ m = .int .u64 M ∧ digU N = digU M ++ S ∧ M ≤ 9223372036854775808) (fun _ m _ => (intOf m).toNat)
    case atStart => exact ⟨HB, N, [], rfl, rfl, (List.append_nil _).symm, hM⟩
    case round =>
      obtain ⟨HR, M, S, rfl, rfl, hd, hm⟩ := hrel
      have hc := HC wr (M % 10) (by omega)
      rw [show ((M % 10 : Nat) : Int) = (M : Int) % 10 by omega] at hc
      obtain ⟨hl, g1, g2⟩ := hD.out N hM M S hd hm
      have HB1 := BW.new HR (.cells #[.int .u8 (48 + (M : Int) % 10)] 5)
      have ha : ∀ w2 : World, (Op.stringOp .add (bs [dig (M % 10)]) (bs S)).run Tryz.prog w2 = .ok (.string (bs (dig (M % 10) :: S))) w2 := fun w2 => run_string_add_lists w2 [dig (M % 10)] S (by simp) (by omega)
      unfold tx at hc
      generalize dig (M % 10) = c at *
      have G1 := Lib.hid g1
      have G2 := Lib.hid g2
      have HD := Lib.hid hd
      clear g1 g2 hd hD HC
      by_cases hq : M / 10 = 0
      · have hz : ((M : Int) / 10 == 0) = true := by simp; omega
        have hv := G1.out hq
        go_wp2
        go_ret
        exact ⟨by rw [hV, hv]; rfl, HB1⟩
      · have hz : ((M : Int) / 10 == 0) = false := by simp; omega
        go_wp2
        exact ⟨⟨HB1, M / 10, c :: S, rfl, by rw [Int.natCast_ediv]; rfl, G2.out hq, by omega⟩, by simp [intOf]; omega⟩

/-! ### Number -/
theorem take_snoc (s : ByteArray) (k : Nat) (h : k < s.size) : s.data.toList.take (k + 1) = s.data.toList.take k ++ [s[k]] := by
  rw [List.take_succ_eq_append_getElem (by simpa using h)]; rfl
def retO (o : Option Int) : Value := .tuple #[.int .i64 (o.getD 0), .bool o.isSome]
def numN (d : List UInt8) : Option Int := if DigT d ∧ d.length ≤ 19 ∧ d.head? ≠ some 48 ∧ valD d ≤ 9223372036854775808 then some (-(valD d : Int)) else none
def numP (d : List UInt8) : Option Int := if DigT d ∧ d.length ≤ 19 ∧ valD d < 9223372036854775808 then some (valD d : Int) else none
def numX (neg : Bool) (d : List UInt8) : Option Int := if neg then numN d else numP d
theorem valD_lt (l : List UInt8) : (∀ c ∈ l, isDig c = true) → l.length ≤ 19 → valD l < 10 ^ l.length := by
  refine snoc_ind (P := fun l => (∀ c ∈ l, isDig c = true) → l.length ≤ 19 → valD l < 10 ^ l.length) (fun _ _ => by decide) ?_ l
  intro l c ih h hl
  rw [List.length_append] at hl
  have h1 := ih (fun c hc => h c (List.mem_append_left _ hc)) (by simp at hl; omega)
  have h2 := of_decide_eq_true (h c (List.mem_append_right _ (List.mem_singleton.2 rfl)))
  rw [valD_snoc, List.length_append]
  show _ < 10 ^ (l.length + 1)
  rw [Nat.pow_succ]
  omega
theorem numX_long {neg : Bool} {d : List UInt8} (h : 19 < d.length) : numX neg d = none := by
  cases neg
  · show numP d = none
    unfold numP
    rw [if_neg (fun h' => by omega)]
  · show numN d = none
    unfold numN
    rw [if_neg (fun h' => by omega)]
theorem numX_bad {neg : Bool} {d : List UInt8} (h : ¬ DigT d) : numX neg d = none := by
  cases neg
  · show numP d = none
    unfold numP
    rw [if_neg (fun h' => h h'.1)]
  · show numN d = none
    unfold numN
    rw [if_neg (fun h' => h h'.1)]
theorem numX_nought {d : List UInt8} (h : d.head? = some 48) : numX true d = none := by
  show numN d = none
  unfold numN
  rw [if_neg (fun h' => h'.2.2.1 h)]
theorem numX_good {neg : Bool} {d : List UInt8} (hT : DigT d) (hl : d.length ≤ 19) (h48 : neg = true → d.head? ≠ some 48) :
    numX neg d = if 9223372036854775808 < valD d ∨ (valD d = 9223372036854775808 ∧ neg = false) then none else if neg then some (-(valD d : Int)) else some (valD d : Int) := by
  cases neg
  · show numP d = _
    unfold numP
    by_cases h : valD d < 9223372036854775808
    · rw [if_pos ⟨hT, hl, h⟩, if_neg (by simp; omega)]; rfl
    · rw [if_neg (fun h' => h h'.2.2), if_pos (by simp; omega)]
  · show numN d = _
    unfold numN
    by_cases h : valD d ≤ 9223372036854775808
    · rw [if_pos ⟨hT, hl, h48 rfl, h⟩, if_neg (by simp; omega)]; rfl
    · rw [if_neg (fun h' => h h'.2.2.2), if_pos (by simp; omega)]
theorem numT_good {d : List UInt8} (hT : DigT d) (hl : d.length ≤ 19) (h48 : d.head? ≠ some 48) : numX true d = if 9223372036854775808 < valD d then none else some (-(valD d : Int)) := by
  rw [numX_good hT hl (fun _ => h48)]
  by_cases h : 9223372036854775808 < valD d
  · rw [if_pos (.inl h), if_pos h]
  · rw [if_neg (by rintro (h' | ⟨_, h'⟩); exact h h'; cases h'), if_neg h]; rfl
theorem numF_good {d : List UInt8} (hT : DigT d) (hl : d.length ≤ 19) : numX false d = if 9223372036854775808 ≤ valD d then none else some (valD d : Int) := by
  rw [numX_good hT hl (fun h => by cases h)]
  by_cases h : 9223372036854775808 ≤ valD d
  · rw [if_pos (by simp; omega), if_pos h]
  · rw [if_neg (by rintro (h' | ⟨h', _⟩) <;> omega), if_neg h]; rfl
theorem len_toList (q : ByteArray) : q.data.toList.length = q.size := rfl
theorem head_toList {q : ByteArray} (h : 0 < q.size) : q.data.toList.head? = some q[0] := by
  rw [List.head?_eq_getElem?, List.getElem?_eq_getElem (by rw [len_toList]; exact h)]
  rfl
theorem tail_toList (q : ByteArray) : (q.extract 1 q.size).data.toList = q.data.toList.tail := by
  rw [ByteArray.data_extract, Array.toList_extract]
  show List.extract _ 1 q.data.size = _
  unfold List.extract
  rw [List.drop_one, List.take_of_length_le (by rw [List.length_tail, Array.length_toList]; exact Nat.le_refl _)]
theorem digT_of {d : List UInt8} (hne : d ≠ []) (ha : ∀ c ∈ d, isDig c = true) (h : d.head? = some 48 → d.length = 1) : DigT d := ⟨hne, ha, h⟩
/-! ### Register -/
theorem regS_out (q : ByteArray) (h : q.size < 2 ∨ 3 < q.size ∨ ∃ h : 0 < q.size, q[0] ≠ 120) : regS q.data.toList = none := by
  have hlen := len_toList q
  unfold regS
  rw [if_neg]
  rintro ⟨h1, h2, h3⟩
  rcases h with h | h | ⟨hp, h⟩
  · omega
  · omega
  · rw [head_toList hp] at h3
    exact h (Option.some.inj h3)
theorem regS_in (q : ByteArray) (h1 : 2 ≤ q.size) (h2 : q.size ≤ 3) (h3 : q[0] = 120) : regS q.data.toList = match numV q.data.toList.tail with
    | some n => if 0 ≤ n ∧ n ≤ 31 then some n else none
    | none => none := by
  have hlen := len_toList q
  unfold regS
  rw [if_pos ⟨by omega, by omega, by rw [head_toList (by omega), h3]⟩]
  cases numV q.data.toList.tail <;> rfl
/-! ### Sets -/
theorem rset_any (n : Int) (h : 0 ≤ n ∧ n < 16) (w : World) : Calls Tryz.prog 78 #[.int .i64 n] w fun e w' => e = .returned (tx (setT n)) ∧ w = w' := by
  obtain rfl | rfl | rfl | rfl | rfl | rfl | rfl | rfl | rfl | rfl | rfl | rfl | rfl | rfl | rfl | rfl : n = 0 ∨ n = 1 ∨ n = 2 ∨ n = 3 ∨ n = 4 ∨ n = 5 ∨ n = 6 ∨ n = 7 ∨ n = 8 ∨ n = 9 ∨ n = 10 ∨ n = 11 ∨ n = 12 ∨ n = 13 ∨ n = 14 ∨ n = 15 := by omega
  all_goals
    have hA : ∀ y : List UInt8, (⟨#[]⟩ : ByteArray) ++ ⟨y.toArray⟩ = ⟨y.toArray⟩ := fun y => ByteArray.mk_append_mk [] y
    have hB : ∀ (a : UInt8) (y : List UInt8), (⟨#[a]⟩ : ByteArray) ++ ⟨y.toArray⟩ = ⟨(a :: y).toArray⟩ := fun a y => ByteArray.mk_append_mk [a] y
    have hC : ∀ (a b : UInt8) (y : List UInt8), (⟨#[a, b]⟩ : ByteArray) ++ ⟨y.toArray⟩ = ⟨(a :: b :: y).toArray⟩ := fun a b y => ByteArray.mk_append_mk [a, b] y
    have hD : ∀ (a b c : UInt8) (y : List UInt8), (⟨#[a, b, c]⟩ : ByteArray) ++ ⟨y.toArray⟩ = ⟨(a :: b :: c :: y).toArray⟩ := fun a b c y => ByteArray.mk_append_mk [a, b, c] y
    have hn : ∀ (a : UInt8) (y : List UInt8), (⟨(a :: y).toArray⟩ : ByteArray).toList.isEmpty = false := fun a y => by rw [ByteArray.toList_mk]; rfl
    go_enter Tryz.func78, Tryz.ntmps78
    go_wp2
    go_ret
    exact ⟨rfl, rfl⟩
theorem or_sets : ∀ m : Fin 16, bits .or .i64 (m.val : Int) 8 = ((m.val ||| 8 : Nat) : Int) ∧ bits .or .i64 (m.val : Int) 4 = ((m.val ||| 4 : Nat) : Int) ∧ bits .or .i64 (m.val : Int) 2 = ((m.val ||| 2 : Nat) : Int) ∧ bits .or .i64 (m.val : Int) 1 = ((m.val ||| 1 : Nat) : Int) := by decide +kernel
theorem or_lt (m : Nat) (h : m < 16) (k : Nat) (hk : k < 16) : m ||| k < 16 := Nat.or_lt_two_pow (n := 4) h hk
theorem bitOf_lt (c : UInt8) : bitOf c < 16 := by unfold bitOf; repeat (first | split | omega)
theorem bitsT_snoc (l : List UInt8) (c : UInt8) : bitsT (l ++ [c]) = bitsT l ||| bitOf c := by unfold bitsT; rw [List.foldl_append]; rfl
theorem bitsT_lt (l : List UInt8) : bitsT l < 16 := by
  refine snoc_ind (P := fun l => bitsT l < 16) (by decide) ?_ l
  intro l c h
  rw [bitsT_snoc]
  exact or_lt _ h _ (bitOf_lt c)
end Go.Proofs.YtolmecnjolfjgaaGreatDoor
