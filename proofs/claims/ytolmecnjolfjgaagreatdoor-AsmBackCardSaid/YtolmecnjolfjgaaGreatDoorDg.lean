/- Numbers, registers and sets as texts, and back: plain. Nothing here speaks of a program. -/
import Derived.Test.YtolmecnjolfjgaaGreatDoorSy
set_option maxRecDepth 100000
namespace Go.Proofs.YtolmecnjolfjgaaGreatDoor
open Go.RowKit

/-! ### Digits -/
def dig (m : Nat) : UInt8 := UInt8.ofNat (48 + m)
def isDig (c : UInt8) : Bool := decide (48 ≤ c.toNat ∧ c.toNat ≤ 57)
theorem dig_toNat {m : Nat} (h : m < 10) : (dig m).toNat = 48 + m := by
  unfold dig
  rw [UInt8.toNat_ofNat']
  omega
theorem dig_of {c : UInt8} (h : isDig c = true) : dig (c.toNat - 48) = c := by
  have h := of_decide_eq_true h
  apply UInt8.toNat_inj.1
  rw [dig_toNat (by omega)]
  omega
theorem isDig_dig {m : Nat} (h : m < 10) : isDig (dig m) = true := by
  unfold isDig
  rw [dig_toNat h]
  exact decide_eq_true (by omega)
/-- The last k digits at most; all, if the number has no more. -/
def digF : Nat → Nat → List UInt8
  | 0, _ => []
  | k + 1, m => if m < 10 then [dig m] else digF k (m / 10) ++ [dig (m % 10)]
def digU (m : Nat) : List UInt8 := digF 20 m
def digI (n : Int) : List UInt8 := if n < 0 then 45 :: digU n.natAbs else digU n.natAbs
def valD (l : List UInt8) : Nat := l.foldl (fun n c => 10 * n + (c.toNat - 48)) 0
theorem valD_snoc (l : List UInt8) (c : UInt8) : valD (l ++ [c]) = 10 * valD l + (c.toNat - 48) := by
  unfold valD
  rw [List.foldl_append]
  rfl
theorem digF_ne {k m : Nat} (hk : 0 < k) : digF k m ≠ [] := by
  cases k with
  | zero => omega
  | succ k => unfold digF; split <;> simp
theorem digF_all (k m : Nat) : ∀ c ∈ digF k m, isDig c = true := by
  induction k generalizing m with
  | zero => intro c h; cases h
  | succ k ih =>
    intro c h
    unfold digF at h
    split at h
    · rw [List.mem_singleton.1 h]; exact isDig_dig (by omega)
    · rcases List.mem_append.1 h with h | h
      · exact ih _ c h
      · rw [List.mem_singleton.1 h]; exact isDig_dig (Nat.mod_lt _ (by decide))
theorem digF_len (k m : Nat) : (digF k m).length ≤ k := by
  induction k generalizing m with
  | zero => exact Nat.le_refl _
  | succ k ih =>
    unfold digF
    split
    · simp
    · rw [List.length_append]; have := ih (m / 10); simp; omega
theorem digF_val (k m : Nat) (h : m < 10 ^ k) : valD (digF k m) = m := by
  induction k generalizing m with
  | zero => have : m = 0 := by simpa using h
            subst this; rfl
  | succ k ih =>
    unfold digF
    split
    · next h => show 10 * 0 + ((dig m).toNat - 48) = m; rw [dig_toNat h]; omega
    · rw [valD_snoc, ih _ (by rw [Nat.pow_succ] at h; omega), dig_toNat (Nat.mod_lt _ (by decide))]; omega
/-- No nought stands ahead. -/
theorem digF_head (k m : Nat) (h : m < 10 ^ k) (hk : 0 < k) (h0 : 0 < m) : (digF k m).head? ≠ some 48 := by
  induction k generalizing m with
  | zero => omega
  | succ k ih =>
    unfold digF
    split
    · next h =>
      intro e
      have e : dig m = 48 := Option.some.inj e
      have := dig_toNat h
      rw [e] at this
      have : (48 : UInt8).toNat = 48 := rfl
      omega
    · next hm =>
      have hk' : 0 < k := by
        rcases Nat.eq_zero_or_pos k with rfl | h'
        · simp at h; omega
        · exact h'
      have := ih (m / 10) (by rw [Nat.pow_succ] at h; omega) hk' (by omega)
      cases hd : digF k (m / 10) with
      | nil => exact absurd hd (digF_ne hk')
      | cons a l => rw [hd] at this; exact this
theorem digF_big {j k m : Nat} (h : m < 10 ^ j) (hj : 0 < j) (hjk : j ≤ k) : digF k m = digF j m := by
  induction j generalizing k m with
  | zero => omega
  | succ j ih =>
    obtain ⟨k, rfl⟩ : ∃ q, k = q + 1 := ⟨k - 1, by omega⟩
    unfold digF
    split
    · rfl
    · rw [ih (k := k) (m := m / 10) (by rw [Nat.pow_succ] at h; omega) ?_ (by omega)]
      rcases Nat.eq_zero_or_pos j with rfl | h'
      · simp at h; omega
      · exact h'
theorem digU_val {m : Nat} (h : m < 10 ^ 20) : valD (digU m) = m := digF_val 20 m h
theorem digU_all (m : Nat) : ∀ c ∈ digU m, isDig c = true := digF_all 20 m
theorem digU_ne (m : Nat) : digU m ≠ [] := digF_ne (by decide)
theorem digU_len {m : Nat} (h : m ≤ 9223372036854775808) : (digU m).length ≤ 19 := by
  unfold digU
  rw [digF_big (j := 19) (k := 20) (by omega) (by decide) (by decide)]
  exact digF_len 19 m
theorem digU_zero : digU 0 = [48] := rfl
theorem digU_head {m : Nat} (h : m < 10 ^ 20) (h0 : 0 < m) : (digU m).head? ≠ some 48 := digF_head 20 m h (by decide) h0
theorem digU_step {m : Nat} (h : 10 ≤ m) (hm : m < 10 ^ 20) : digU m = digU (m / 10) ++ [dig (m % 10)] := by
  have e : digF 20 m = digF 19 (m / 10) ++ [dig (m % 10)] := by
    rw [digF, if_neg (by omega)]
  unfold digU
  rw [e, digF_big (j := 19) (k := 20) (by omega) (by decide) (by decide)]
theorem digU_one {m : Nat} (h : m < 10) : digU m = [dig m] := by
  unfold digU
  rw [digF, if_pos h]

/-! ### A text's number -/
theorem snoc_ind {α : Type} {P : List α → Prop} (h0 : P []) (hs : ∀ l c, P l → P (l ++ [c])) (l : List α) : P l := by
  rw [← List.reverse_reverse l]
  induction l.reverse with
  | nil => exact h0
  | cons a t ih => rw [List.reverse_cons]; exact hs _ _ ih
/-- Digits, none in vain ahead. -/
def DigT (d : List UInt8) : Prop := d ≠ [] ∧ (∀ c ∈ d, isDig c = true) ∧ (d.head? = some 48 → d.length = 1)
instance (d : List UInt8) : Decidable (DigT d) := by unfold DigT; infer_instance
theorem head_snoc {l : List UInt8} (h : l ≠ []) (c : UInt8) : (l ++ [c]).head? = l.head? := by
  cases l with
  | nil => exact absurd rfl h
  | cons a t => rfl
theorem digT_init {l : List UInt8} {c : UInt8} (h : DigT (l ++ [c])) (hl : l ≠ []) : DigT l ∧ l.head? ≠ some 48 := by
  obtain ⟨_, h2, h3⟩ := h
  rw [head_snoc hl] at h3
  have hn : l.head? ≠ some 48 := by
    intro e
    have := h3 e
    rw [List.length_append] at this
    have : l.length = 0 := by simp at this; exact List.length_eq_zero_iff.2 this
    exact hl (List.length_eq_zero_iff.1 this)
  exact ⟨⟨hl, fun c' hc => h2 c' (List.mem_append_left _ hc), fun e => absurd e hn⟩, hn⟩
theorem dig_back (d : List UInt8) : DigT d → valD d < 10 ^ 20 → digU (valD d) = d := by
  refine snoc_ind (P := fun d => DigT d → valD d < 10 ^ 20 → digU (valD d) = d) (fun h => absurd rfl h.1) ?_ d
  intro l c ih h hv
  have hc := h.2.1 c (List.mem_append_right _ (List.mem_singleton.2 rfl))
  have hc' := of_decide_eq_true hc
  rw [valD_snoc] at hv ⊢
  by_cases hl : l = []
  · subst hl
    rw [show valD [] = 0 from rfl, Nat.mul_zero, Nat.zero_add, digU_one (by omega), dig_of hc]
    rfl
  · obtain ⟨hT, hn⟩ := digT_init h hl
    have e := ih hT (by omega)
    have hp : 0 < valD l := by
      rcases Nat.eq_zero_or_pos (valD l) with h0 | h0
      · rw [h0, digU_zero] at e
        rw [← e] at hn
        exact absurd rfl hn
      · exact h0
    rw [digU_step (by omega) hv, show (10 * valD l + (c.toNat - 48)) / 10 = valD l by omega, show (10 * valD l + (c.toNat - 48)) % 10 = c.toNat - 48 by omega, e, dig_of hc]
theorem digT_digU {m : Nat} (h : m < 10 ^ 20) : DigT (digU m) := by
  refine ⟨digU_ne m, digU_all m, fun e => ?_⟩
  rcases Nat.eq_zero_or_pos m with rfl | h0
  · rfl
  · exact absurd e (digU_head h h0)
theorem head_dig {m : Nat} {c : UInt8} (h : (digU m).head? = some c) : isDig c = true := by
  cases hd : digU m with
  | nil => exact absurd hd (digU_ne m)
  | cons a l =>
    rw [hd] at h
    obtain rfl : a = c := Option.some.inj h
    exact digU_all m a (by rw [hd]; exact List.mem_cons_self)
/-- A text's number, if there is one. -/
def numV (s : List UInt8) : Option Int :=
  if s.head? = some 45 then if DigT s.tail ∧ s.tail.length ≤ 19 ∧ s.tail.head? ≠ some 48 ∧ valD s.tail ≤ 9223372036854775808 then some (-(valD s.tail : Int)) else none
  else if DigT s ∧ s.length ≤ 19 ∧ valD s < 9223372036854775808 then some (valD s : Int) else none
theorem num_digI {n : Int} (h : I64 n) : numV (digI n) = some n := by
  unfold I64 at h
  unfold numV digI
  by_cases hn : n < 0
  · have hb : n.natAbs < 10 ^ 20 := by omega
    rw [if_pos hn, if_pos (show (45 :: digU n.natAbs).head? = some 45 from rfl), List.tail_cons, if_pos ⟨digT_digU hb, digU_len (by omega), digU_head hb (by omega), by rw [digU_val hb]; omega⟩, digU_val hb]
    congr 1
    omega
  · have hb : n.natAbs < 10 ^ 20 := by omega
    have h45 : ¬ (digU n.natAbs).head? = some 45 := by
      intro e
      have := head_dig e
      exact absurd this (by decide)
    rw [if_neg hn, if_neg h45, if_pos ⟨digT_digU hb, digU_len (by omega), by rw [digU_val hb]; omega⟩, digU_val hb]
    congr 1
    omega
theorem num_iff (s : List UInt8) (n : Int) : numV s = some n ↔ I64 n ∧ digI n = s := by
  constructor
  · intro h
    unfold numV at h
    split at h
    · next h45 =>
      split at h
      · next hh =>
        obtain ⟨hT, hl, h48, hv⟩ := hh
        obtain rfl := Option.some.inj h
        have e := dig_back _ hT (by omega)
        have hp : 0 < valD s.tail := by
          rcases Nat.eq_zero_or_pos (valD s.tail) with h0 | h0
          · rw [h0, digU_zero] at e
            rw [← e] at h48
            exact absurd rfl h48
          · exact h0
        refine ⟨⟨by omega, by omega⟩, ?_⟩
        unfold digI
        rw [if_pos (by omega), show (-(valD s.tail : Int)).natAbs = valD s.tail by omega, e]
        cases s with
        | nil => cases h45
        | cons a t => rw [Option.some.inj h45]; rfl
      · cases h
    · split at h
      · next hh =>
        obtain ⟨hT, hl, hv⟩ := hh
        obtain rfl := Option.some.inj h
        refine ⟨⟨by omega, by omega⟩, ?_⟩
        unfold digI
        rw [if_neg (by omega), Int.natAbs_natCast]
        exact dig_back _ hT (by omega)
      · cases h
  · rintro ⟨h, rfl⟩
    exact num_digI h

/-! ### Registers -/
def regT (r : Int) : List UInt8 := 120 :: digI r
def regS (s : List UInt8) : Option Int :=
  if 2 ≤ s.length ∧ s.length ≤ 3 ∧ s.head? = some 120 then
    match numV s.tail with
    | some n => if 0 ≤ n ∧ n ≤ 31 then some n else none
    | none => none
  else none
theorem reg_digI : ∀ r : Fin 32, regS (regT (r.val : Int)) = some (r.val : Int) := by decide +kernel
theorem reg_iff (s : List UInt8) (r : Int) : regS s = some r ↔ (0 ≤ r ∧ r ≤ 31) ∧ regT r = s := by
  constructor
  · intro h
    unfold regS at h
    split at h
    · next hh =>
      split at h
      · next n hn =>
        split at h
        · next hr =>
          obtain rfl := Option.some.inj h
          refine ⟨hr, ?_⟩
          have := ((num_iff _ _).1 hn).2
          unfold regT
          rw [this]
          cases s with
          | nil => cases hh.2.2
          | cons a t => rw [Option.some.inj hh.2.2]; rfl
        · cases h
      · cases h
    · cases h
  · rintro ⟨h, rfl⟩
    have := reg_digI ⟨r.toNat, by omega⟩
    rw [show ((r.toNat : Nat) : Int) = r by omega] at this
    exact this

/-! ### Sets -/
def setT (n : Int) : List UInt8 :=
  let s := (if n / 8 % 2 = 1 then [105] else []) ++ (if n / 4 % 2 = 1 then [111] else []) ++ (if n / 2 % 2 = 1 then [114] else []) ++ (if n % 2 = 1 then [119] else [])
  if s = [] then [48] else s
def bitOf (c : UInt8) : Nat := if c = 105 then 8 else if c = 111 then 4 else if c = 114 then 2 else if c = 119 then 1 else 0
def bitsT (s : List UInt8) : Nat := s.foldl (fun n c => n ||| bitOf c) 0
theorem bits_set : ∀ n : Fin 16, bitsT (setT (n.val : Int)) = n.val := by decide +kernel
end Go.Proofs.YtolmecnjolfjgaaGreatDoor
