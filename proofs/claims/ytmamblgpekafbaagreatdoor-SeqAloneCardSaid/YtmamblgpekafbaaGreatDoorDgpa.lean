/- Of stage 11. -/
import Derived.Test.YtmamblgpekafbaaGreatDoorRgpa
import Derived.Test.YtmamblgpekafbaaGreatDoorOp5pa
import Derived.Lib.ItoaNum
import Derived.Lib.Strings
import Derived.Lib.Bytealg
set_option maxRecDepth 100000
namespace Go.Proofs.YtmamblgpekafbaaGreatDoor
open Go.RowKit
def dig (m : Nat) : UInt8 := UInt8.ofNat (48 + m)
def zv2 (c : UInt8) : Bool := decide (48 ≤ c.toNat ∧ c.toNat ≤ 57)
theorem zn8 {m : Nat} (h : m < 10) : (dig m).toNat = 48 + m := by
  unfold dig
  rw [UInt8.toNat_ofNat']
  omega
theorem dig_of {c : UInt8} (h : zv2 c = true) : dig (c.toNat - 48) = c := by
  have h := of_decide_eq_true h
  apply UInt8.toNat_inj.1
  rw [zn8 (by omega)]
  omega
theorem zJ8 {m : Nat} (h : m < 10) : zv2 (dig m) = true := by
  unfold zv2
  rw [zn8 h]
  exact decide_eq_true (by omega)
def digF : Nat → Nat → List UInt8
  | 0, _ => []
  | k + 1, m => if m < 10 then [dig m] else digF k (m / 10) ++ [dig (m % 10)]
def digU (m : Nat) : List UInt8 := digF 20 m
def digI (n : Int) : List UInt8 := if n < 0 then 45 :: digU n.natAbs else digU n.natAbs
def valD (l : List UInt8) : Nat := l.foldl (fun n c => 10 * n + (c.toNat - 48)) 0
theorem zn1 (l : List UInt8) (c : UInt8) : valD (l ++ [c]) = 10 * valD l + (c.toNat - 48) := by
  unfold valD
  rw [List.foldl_append]
  rfl
theorem Zi8 {k m : Nat} (hk : 0 < k) : digF k m ≠ [] := by
  cases k with
  | zero => omega
  | succ k => unfold digF; split <;> simp
theorem digF_all (k m : Nat) : ∀ c ∈ digF k m, zv2 c = true := by
  induction k generalizing m with
  | zero => intro c h; cases h
  | succ k ih =>
    intro c h
    unfold digF at h
    split at h
    · rw [List.mem_singleton.1 h]; exact zJ8 (by omega)
    · rcases List.mem_append.1 h with h | h
      · exact ih _ c h
      · rw [List.mem_singleton.1 h]; exact zJ8 (Nat.mod_lt _ (by decide))
theorem digF_len (k m : Nat) : (digF k m).length ≤ k := by
  induction k generalizing m with
  | zero => exact Nat.le_refl _
  | succ k ih =>
    unfold digF
    split
    · simp
    · rw [List.length_append]; have := ih (m / 10); simp; omega
theorem digF_val (k m : Nat) (h : m < 10 ^ k) : valD (digF k m) = m := by
  induction k generalizing m with
  | zero => have : m = 0 := by simpa using h
            subst this; rfl
  | succ k ih =>
    unfold digF
    split
    · next h => show 10 * 0 + ((dig m).toNat - 48) = m; rw [zn8 h]; omega
    · rw [zn1, ih _ (by rw [Nat.pow_succ] at h; omega), zn8 (Nat.mod_lt _ (by decide))]; omega
theorem Zg0 (k m : Nat) (h : m < 10 ^ k) (hk : 0 < k) (h0 : 0 < m) : (digF k m).head? ≠ some 48 := by
  induction k generalizing m with
  | zero => omega
  | succ k ih =>
    unfold digF
    split
    · next h =>
      intro e
      have e : dig m = 48 := Option.some.inj e
      have := zn8 h
      rw [e] at this
      have : (48 : UInt8).toNat = 48 := rfl
      omega
    · next hm =>
      have hk' : 0 < k := by
        rcases Nat.eq_zero_or_pos k with rfl | h'
        · simp at h; omega
        · exact h'
      have := ih (m / 10) (by rw [Nat.pow_succ] at h; omega) hk' (by omega)
      cases hd : digF k (m / 10) with
      | nil => exact absurd hd (Zi8 hk')
      | cons a l => rw [hd] at this; exact this
theorem zR2 {j k m : Nat} (h : m < 10 ^ j) (hj : 0 < j) (hjk : j ≤ k) : digF k m = digF j m := by
  induction j generalizing k m with
  | zero => omega
  | succ j ih =>
    obtain ⟨k, rfl⟩ : ∃ q, k = q + 1 := ⟨k - 1, by omega⟩
    unfold digF
    split
    · rfl
    · rw [ih (k := k) (m := m / 10) (by rw [Nat.pow_succ] at h; omega) ?_ (by omega)]
      rcases Nat.eq_zero_or_pos j with rfl | h'
      · simp at h; omega
      · exact h'
theorem zv5 {m : Nat} (h : m < 10 ^ 20) : valD (digU m) = m := digF_val 20 m h
theorem zv4 (m : Nat) : ∀ c ∈ digU m, zv2 c = true := digF_all 20 m
theorem Zf1 (m : Nat) : digU m ≠ [] := Zi8 (by decide)
theorem zE2 {m : Nat} (h : m ≤ 9223372036854775808) : (digU m).length ≤ 19 := by
  unfold digU
  rw [zR2 (j := 19) (k := 20) (by omega) (by decide) (by decide)]
  exact digF_len 19 m
theorem zG8 : digU 0 = [48] := rfl
theorem zG3 {m : Nat} (h : m < 10 ^ 20) (h0 : 0 < m) : (digU m).head? ≠ some 48 := Zg0 20 m h (by decide) h0
theorem Zk1 {m : Nat} (h : 10 ≤ m) (hm : m < 10 ^ 20) : digU m = digU (m / 10) ++ [dig (m % 10)] := by
  have e : digF 20 m = digF 19 (m / 10) ++ [dig (m % 10)] := by
    rw [digF, if_neg (by omega)]
  unfold digU
  rw [e, zR2 (j := 19) (k := 20) (by omega) (by decide) (by decide)]
theorem digU_one {m : Nat} (h : m < 10) : digU m = [dig m] := by
  unfold digU
  rw [digF, if_pos h]
theorem zT2 {α : Type} {P : List α → Prop} (h0 : P []) (hs : ∀ l c, P l → P (l ++ [c])) (l : List α) : P l := by
  rw [← List.reverse_reverse l]
  induction l.reverse with
  | nil => exact h0
  | cons a t ih => rw [List.reverse_cons]; exact hs _ _ ih
def DigT (d : List UInt8) : Prop := d ≠ [] ∧ (∀ c ∈ d, zv2 c = true) ∧ (d.head? = some 48 → d.length = 1)
instance (d : List UInt8) : Decidable (DigT d) := by unfold DigT; infer_instance
theorem Zk5 {l : List UInt8} (h : l ≠ []) (c : UInt8) : (l ++ [c]).head? = l.head? := by
  cases l with
  | nil => exact absurd rfl h
  | cons a t => rfl
theorem Zq9 {l : List UInt8} {c : UInt8} (h : DigT (l ++ [c])) (hl : l ≠ []) : DigT l ∧ l.head? ≠ some 48 := by
  obtain ⟨_, h2, h3⟩ := h
  rw [Zk5 hl] at h3
  have hn : l.head? ≠ some 48 := by
    intro e
    have := h3 e
    rw [List.length_append] at this
    have : l.length = 0 := by simp at this; exact List.length_eq_zero_iff.2 this
    exact hl (List.length_eq_zero_iff.1 this)
  exact ⟨⟨hl, fun c' hc => h2 c' (List.mem_append_left _ hc), fun e => absurd e hn⟩, hn⟩
theorem zB6 (d : List UInt8) : DigT d → valD d < 10 ^ 20 → digU (valD d) = d := by
  refine zT2 (P := fun d => DigT d → valD d < 10 ^ 20 → digU (valD d) = d) (fun h => absurd rfl h.1) ?_ d
  intro l c ih h hv
  have hc := h.2.1 c (List.mem_append_right _ (List.mem_singleton.2 rfl))
  have hc' := of_decide_eq_true hc
  rw [zn1] at hv ⊢
  by_cases hl : l = []
  · subst hl
    rw [show valD [] = 0 from rfl, Nat.mul_zero, Nat.zero_add, digU_one (by omega), dig_of hc]
    rfl
  · obtain ⟨hT, hn⟩ := Zq9 h hl
    have e := ih hT (by omega)
    have hp : 0 < valD l := by
      rcases Nat.eq_zero_or_pos (valD l) with h0 | h0
      · rw [h0, zG8] at e
        rw [← e] at hn
        exact absurd rfl hn
      · exact h0
    rw [Zk1 (by omega) hv, show (10 * valD l + (c.toNat - 48)) / 10 = valD l by omega, show (10 * valD l + (c.toNat - 48)) % 10 = c.toNat - 48 by omega, e, dig_of hc]
theorem zG5 {m : Nat} (h : m < 10 ^ 20) : DigT (digU m) := by
  refine ⟨Zf1 m, zv4 m, fun e => ?_⟩
  rcases Nat.eq_zero_or_pos m with rfl | h0
  · rfl
  · exact absurd e (zG3 h h0)
theorem head_dig {m : Nat} {c : UInt8} (h : (digU m).head? = some c) : zv2 c = true := by
  cases hd : digU m with
  | nil => exact absurd hd (Zf1 m)
  | cons a l =>
    rw [hd] at h
    obtain rfl : a = c := Option.some.inj h
    exact zv4 m a (by rw [hd]; exact List.mem_cons_self)
def numV (s : List UInt8) : Option Int :=
  if s.head? = some 45 then if DigT s.tail ∧ s.tail.length ≤ 19 ∧ s.tail.head? ≠ some 48 ∧ valD s.tail ≤ 9223372036854775808 then some (-(valD s.tail : Int)) else none
  else if DigT s ∧ s.length ≤ 19 ∧ valD s < 9223372036854775808 then some (valD s : Int) else none
theorem zS4 {n : Int} (h : I64 n) : numV (digI n) = some n := by
  unfold I64 at h
  unfold numV digI
  by_cases hn : n < 0
  · have hb : n.natAbs < 10 ^ 20 := by omega
    rw [if_pos hn, if_pos (show (45 :: digU n.natAbs).head? = some 45 from rfl), List.tail_cons, if_pos ⟨zG5 hb, zE2 (by omega), zG3 hb (by omega), by rw [zv5 hb]; omega⟩, zv5 hb]
    congr 1
    omega
  · have hb : n.natAbs < 10 ^ 20 := by omega
    have h45 : ¬ (digU n.natAbs).head? = some 45 := by
      intro e
      have := head_dig e
      exact absurd this (by decide)
    rw [if_neg hn, if_neg h45, if_pos ⟨zG5 hb, zE2 (by omega), by rw [zv5 hb]; omega⟩, zv5 hb]
    congr 1
    omega
theorem zF2 (s : List UInt8) (n : Int) : numV s = some n ↔ I64 n ∧ digI n = s := by
  constructor
  · intro h
    unfold numV at h
    split at h
    · next h45 =>
      split at h
      · next hh =>
        obtain ⟨hT, hl, h48, hv⟩ := hh
        obtain rfl := Option.some.inj h
        have e := zB6 _ hT (by omega)
        have hp : 0 < valD s.tail := by
          rcases Nat.eq_zero_or_pos (valD s.tail) with h0 | h0
          · rw [h0, zG8] at e
            rw [← e] at h48
            exact absurd rfl h48
          · exact h0
        refine ⟨⟨by omega, by omega⟩, ?_⟩
        unfold digI
        rw [if_pos (by omega), show (-(valD s.tail : Int)).natAbs = valD s.tail by omega, e]
        cases s with
        | nil => cases h45
        | cons a t => rw [Option.some.inj h45]; rfl
      · cases h
    · split at h
      · next hh =>
        obtain ⟨hT, hl, hv⟩ := hh
        obtain rfl := Option.some.inj h
        refine ⟨⟨by omega, by omega⟩, ?_⟩
        unfold digI
        rw [if_neg (by omega), Int.natAbs_natCast]
        exact zB6 _ hT (by omega)
      · cases h
  · rintro ⟨h, rfl⟩
    exact zS4 h
def regT (r : Int) : List UInt8 := 120 :: digI r
def regS (s : List UInt8) : Option Int :=
  if 2 ≤ s.length ∧ s.length ≤ 3 ∧ s.head? = some 120 then
    match numV s.tail with
    | some n => if 0 ≤ n ∧ n ≤ 31 then some n else none
    | none => none
  else none
theorem reg_digI : ∀ r : Fin 32, regS (regT (r.val : Int)) = some (r.val : Int) := by decide +kernel
theorem zw3 (s : List UInt8) (r : Int) : regS s = some r ↔ (0 ≤ r ∧ r ≤ 31) ∧ regT r = s := by
  constructor
  · intro h
    unfold regS at h
    split at h
    · next hh =>
      split at h
      · next n hn =>
        split at h
        · next hr =>
          obtain rfl := Option.some.inj h
          refine ⟨hr, ?_⟩
          have := ((zF2 _ _).1 hn).2
          unfold regT
          rw [this]
          cases s with
          | nil => cases hh.2.2
          | cons a t => rw [Option.some.inj hh.2.2]; rfl
        · cases h
      · cases h
    · cases h
  · rintro ⟨h, rfl⟩
    have := reg_digI ⟨r.toNat, by omega⟩
    rw [show ((r.toNat : Nat) : Int) = r by omega] at this
    exact this
def setT (n : Int) : List UInt8 :=
  let s := (if n / 8 % 2 = 1 then [105] else []) ++ (if n / 4 % 2 = 1 then [111] else []) ++ (if n / 2 % 2 = 1 then [114] else []) ++ (if n % 2 = 1 then [119] else [])
  if s = [] then [48] else s
end Go.Proofs.YtmamblgpekafbaaGreatDoor
namespace Go.Proofs.YtmamblgpekafbaaGreatDoor
open Go.RowKit
def annT (aq rl : Bool) : List UInt8 := (if aq || rl then [46] else []) ++ (if aq then [97, 113] else []) ++ (if rl then [114, 108] else [])
def cmS : List UInt8 := [44, 32]
def tailT (i : Ins) : List UInt8 :=
  if srt i.op = 1 ∨ i.op = 3 then [32] ++ regT i.rd ++ cmS ++ digI i.imm
  else if srt i.op = 2 ∨ srt i.op = 6 then [32] ++ regT i.rd ++ cmS ++ regT i.rs1 ++ cmS ++ digI i.imm
  else if srt i.op = 3 then [32] ++ regT i.rs1 ++ cmS ++ regT i.rs2 ++ cmS ++ digI i.imm
  else if srt i.op = 4 then [32] ++ regT i.rd ++ cmS ++ digI i.imm ++ [40] ++ regT i.rs1 ++ [41]
  else if srt i.op = 5 then [32] ++ regT i.rs2 ++ cmS ++ digI i.imm ++ [40] ++ regT i.rs1 ++ [41]
  else if srt i.op = 7 then [32] ++ regT i.rd ++ cmS ++ regT i.rs1 ++ cmS ++ regT i.rs2
  else if i.op = 50 then [32] ++ setT i.pred ++ cmS ++ setT i.succ
  else if srt i.op = 10 then [32] ++ regT i.rd ++ [44, 32, 40] ++ regT i.rs1 ++ [41]
  else if 10 < srt i.op then [32] ++ regT i.rd ++ cmS ++ regT i.rs2 ++ [44, 32, 40] ++ regT i.rs1 ++ [41]
  else []
def zN3 (i : Ins) : List UInt8 := nmO i.op ++ annT i.aq i.rl ++ tailT i
def isW (c : UInt8) : Bool := decide ((97 ≤ c.toNat ∧ c.toNat ≤ 122) ∨ (48 ≤ c.toNat ∧ c.toNat ≤ 57) ∨ c = 46 ∨ c = 45)
def AllW (l : List UInt8) : Prop := ∀ c ∈ l, isW c = true
instance (l : List UInt8) : Decidable (AllW l) := by unfold AllW; infer_instance
theorem AllW.app {a b : List UInt8} (ha : AllW a) (hb : AllW b) : AllW (a ++ b) := fun c h => (List.mem_append.1 h).elim (ha c) (hb c)
theorem Zj7 {c : UInt8} (h : zv2 c = true) : isW c = true := by
  have := of_decide_eq_true h
  exact decide_eq_true (.inr (.inl this))
theorem zI7 (n : Int) : AllW (digI n) := by
  intro c hc
  unfold digI at hc
  split at hc
  · rcases List.mem_cons.1 hc with rfl | h
    · decide
    · exact Zj7 (zv4 _ c h)
  · exact Zj7 (zv4 _ c hc)
theorem zx7 (r : Int) : AllW (regT r) := by
  intro c hc
  rcases List.mem_cons.1 hc with rfl | h
  · decide
  · exact zI7 r c h
theorem Ze9 : ∀ n : Fin 16, AllW (setT (n.val : Int)) ∧ setT (n.val : Int) ≠ [] := by decide +kernel
theorem zF6 {n : Int} (h : 0 ≤ n ∧ n < 16) : AllW (setT n) ∧ setT n ≠ [] := by
  have := Ze9 ⟨n.toNat, by omega⟩
  rw [show ((n.toNat : Nat) : Int) = n by omega] at this
  exact this
theorem Za3 : ∀ k : Fin 75, (AllW (nmO ((k.val : Int) + 1)) ∧ nmO ((k.val : Int) + 1) ≠ []) := by decide +kernel
theorem Ze6 {op : Int} (h : 1 ≤ op ∧ op ≤ 75) (aq rl : Bool) : AllW (nmO op ++ annT aq rl) ∧ nmO op ++ annT aq rl ≠ [] := by
  have := Za3 ⟨op.toNat - 1, by omega⟩
  rw [show ((op.toNat - 1 : Nat) : Int) + 1 = op by omega] at this
  refine ⟨this.1.app ?_, fun e => this.2 (List.append_eq_nil_iff.1 e).1⟩
  cases aq <;> cases rl <;> decide
def zl0 (op : Int) (aq rl : Bool) : Ins := ⟨op, 0, 0, 0, 0, aq, rl, if op = 51 then 3 else 0, if op = 51 then 3 else 0⟩
theorem imm_I64 {i : Ins} (h : Rgt i) : I64 i.imm := by
  have hf : 0 ≤ fmV i.op ∧ fmV i.op ≤ 5 ∧ (shV i.op = 0 ∨ shV i.op = 5 ∨ shV i.op = 6) := by
    have hall : ∀ k : Fin 75, 0 ≤ fmV ((k.val : Int) + 1) ∧ fmV ((k.val : Int) + 1) ≤ 5 ∧ (shV ((k.val : Int) + 1) = 0 ∨ shV ((k.val : Int) + 1) = 5 ∨ shV ((k.val : Int) + 1) = 6) := by decide +kernel
    have := hall ⟨i.op.toNat - 1, by have := h.op; omega⟩
    rw [show ((i.op.toNat - 1 : Nat) : Int) + 1 = i.op by have := h.op; omega] at this
    exact this
  unfold I64
  rcases hf.2.2 with e | e | e
  · by_cases e0 : fmV i.op = 0
    · rw [h.non e e0]; decide
    · have := h.may (by omega)
      unfold May at this
      omega
  · have := h.sh5 e; omega
  · have := h.sh6 e; omega
end Go.Proofs.YtmamblgpekafbaaGreatDoor
namespace Go.Proofs.YtmamblgpekafbaaGreatDoor
open Go.RowKit
def shpL : List (List UInt8) := [[], [32, 100, 44, 32, 110], [32, 100, 44, 32, 97, 44, 32, 110], [32, 97, 44, 32, 98, 44, 32, 110], [32, 100, 44, 32, 110, 40, 97, 41], [32, 98, 44, 32, 110, 40, 97, 41], [32, 100, 44, 32, 97, 44, 32, 110], [32, 100, 44, 32, 97, 44, 32, 98], [32, 112, 44, 32, 115], [], [32, 100, 44, 32, 40, 97, 41], [32, 100, 44, 32, 98, 44, 32, 40, 97, 41], [32, 100, 44, 32, 98, 44, 32, 40, 97, 41]]
def shpT (op : Int) : List UInt8 := if op = 3 then [32, 100, 44, 32, 110] else if op = 51 then [] else shpL.getD (srt op).toNat []
def ze6 (i : Ins) (c : UInt8) : List UInt8 :=
  if c = 100 then regT i.rd else if c = 97 then regT i.rs1 else if c = 98 then regT i.rs2 else if c = 110 then digI i.imm else if c = 112 then setT i.pred else if c = 115 then setT i.succ else [c]
theorem zl3 {op : Int} (h3 : op ≠ 3) (h51 : op ≠ 51) {k : Nat} (hs : srt op = (k : Int)) : shpT op = shpL.getD k [] := by
  unfold shpT
  rw [if_neg h3, if_neg h51, hs]
  rfl
theorem Za0 {i : Ins} (h : 1 ≤ i.op ∧ i.op ≤ 75) : tailT i = (shpT i.op).flatMap (ze6 i) := by
  have hs := zd0 i.op
  unfold tailT cmS
  by_cases h3 : i.op = 3
  · rw [if_pos (.inr h3)]
    unfold shpT
    rw [if_pos h3]
    simp [ze6]
  by_cases h51 : i.op = 51
  · have : srt i.op = 8 := by omega
    rw [if_neg (by omega), if_neg (by omega), if_neg (by omega), if_neg (by omega), if_neg (by omega), if_neg (by omega), if_neg (by omega), if_neg (by omega), if_neg (by omega)]
    unfold shpT
    rw [if_neg h3, if_pos h51]
    rfl
  rcases hs with hs | hs | hs | hs | hs | hs | hs | hs | hs | hs | hs | hs | hs
  · omega
  · rw [if_pos (by omega), zl3 h3 h51 (k := 1) (by omega)]; simp [ze6, shpL]
  · rw [if_neg (by omega), if_pos (by omega), zl3 h3 h51 (k := 2) (by omega)]; simp [ze6, shpL]
  · rw [if_neg (by omega), if_neg (by omega), if_pos (by omega), zl3 h3 h51 (k := 3) (by omega)]; simp [ze6, shpL]
  · rw [if_neg (by omega), if_neg (by omega), if_neg (by omega), if_pos (by omega), zl3 h3 h51 (k := 4) (by omega)]; simp [ze6, shpL]
  · rw [if_neg (by omega), if_neg (by omega), if_neg (by omega), if_neg (by omega), if_pos (by omega), zl3 h3 h51 (k := 5) (by omega)]; simp [ze6, shpL]
  · rw [if_neg (by omega), if_pos (by omega), zl3 h3 h51 (k := 6) (by omega)]; simp [ze6, shpL]
  · rw [if_neg (by omega), if_neg (by omega), if_neg (by omega), if_neg (by omega), if_neg (by omega), if_pos (by omega), zl3 h3 h51 (k := 7) (by omega)]; simp [ze6, shpL]
  · rw [if_neg (by omega), if_neg (by omega), if_neg (by omega), if_neg (by omega), if_neg (by omega), if_neg (by omega), if_pos (by omega), zl3 h3 h51 (k := 8) (by omega)]; simp [ze6, shpL]
  · rw [if_neg (by omega), if_neg (by omega), if_neg (by omega), if_neg (by omega), if_neg (by omega), if_neg (by omega), if_neg (by omega), if_neg (by omega), if_neg (by omega), zl3 h3 h51 (k := 9) (by omega)]; rfl
  · rw [if_neg (by omega), if_neg (by omega), if_neg (by omega), if_neg (by omega), if_neg (by omega), if_neg (by omega), if_neg (by omega), if_pos (by omega), zl3 h3 h51 (k := 10) (by omega)]; simp [ze6, shpL]
  · rw [if_neg (by omega), if_neg (by omega), if_neg (by omega), if_neg (by omega), if_neg (by omega), if_neg (by omega), if_neg (by omega), if_neg (by omega), if_pos (by omega), zl3 h3 h51 (k := 11) (by omega)]; simp [ze6, shpL]
  · rw [if_neg (by omega), if_neg (by omega), if_neg (by omega), if_neg (by omega), if_neg (by omega), if_neg (by omega), if_neg (by omega), if_neg (by omega), if_pos (by omega), zl3 h3 h51 (k := 12) (by omega)]; simp [ze6, shpL]
theorem zt5 {i : Ins} (h : 1 ≤ i.op ∧ i.op ≤ 75) : zN3 i = nmO i.op ++ annT i.aq i.rl ++ (shpT i.op).flatMap (ze6 i) := by unfold zN3; rw [Za0 h]
def isMk (c : UInt8) : Bool := c == 32 || c == 44 || c == 40 || c == 41
def noMk (c : UInt8) : Bool := !isMk c
def eatT (c : UInt8) (s : List UInt8) : Option (List UInt8) := match s with | [] => none | d :: t => if d = c then some t else none
theorem zS9 {c : UInt8} {s t : List UInt8} (h : eatT c s = some t) : s = c :: t := by
  unfold eatT at h
  split at h
  · cases h
  · split at h
    · next e => rw [e, Option.some.inj h]
    · cases h
theorem zU4 (c : UInt8) (t : List UInt8) : eatT c (c :: t) = some t := if_pos rfl
def cutA : List UInt8 → List UInt8 → List (UInt8 × List UInt8) → Option (List (UInt8 × List UInt8) × List UInt8)
  | [], s, A => some (A, s)
  | c :: o, s, A => if isMk c then (eatT c s).bind (fun t => cutA o t A) else cutA o (s.dropWhile noMk) (A ++ [(c, s.takeWhile noMk)])
theorem zH1 (o : List UInt8) : ∀ s A B r, cutA o s A = some (B, r) → ∃ D, B = A ++ D ∧ D.map Prod.fst = o.filter noMk ∧ ∀ g : UInt8 → List UInt8, (∀ c, isMk c = true → g c = [c]) → (∀ x ∈ D, g x.1 = x.2) → s = o.flatMap g ++ r := by
  induction o with
  | nil =>
    intro s A B r h
    obtain ⟨rfl, rfl⟩ := Prod.mk.inj (Option.some.inj h)
    exact ⟨[], by simp, rfl, fun g _ _ => by simp⟩
  | cons c o ih =>
    intro s A B r h
    rw [cutA] at h
    cases hc : isMk c with
    | true =>
      rw [if_pos hc] at h
      obtain ⟨t, ht, hx⟩ := Option.bind_eq_some_iff.1 h
      clear h
      obtain rfl := zS9 ht
      obtain ⟨D, h1, h2, h3⟩ := ih _ _ _ _ hx
      refine ⟨D, h1, ?_, fun g hg hD => ?_⟩
      · rw [List.filter_cons_of_neg (by unfold noMk; rw [hc]; decide)]; exact h2
      · rw [List.flatMap_cons, hg c hc, List.append_assoc, ← h3 g hg hD]; rfl
    | false =>
      rw [if_neg (by rw [hc]; decide)] at h
      obtain ⟨D, h1, h2, h3⟩ := ih _ _ _ _ h
      refine ⟨(c, s.takeWhile noMk) :: D, by rw [h1]; simp, ?_, fun g hg hD => ?_⟩
      · rw [List.filter_cons_of_pos (by unfold noMk; rw [hc]; rfl), List.map_cons, h2]
      · rw [List.flatMap_cons, hD (c, s.takeWhile noMk) List.mem_cons_self, List.append_assoc, ← h3 g hg (fun x hx => hD x (List.mem_cons_of_mem _ hx)), List.takeWhile_append_dropWhile]
def headMk (o : List UInt8) : Bool := match o with | [] => true | d :: _ => isMk d
def Zi0 : List UInt8 → Bool
  | [] => true
  | c :: o => (isMk c || headMk o) && Zi0 o
theorem take_p {p : UInt8 → Bool} {a b : List UInt8} (ha : ∀ c ∈ a, p c = true) (hb : b = [] ∨ ∃ d t, b = d :: t ∧ p d = false) : (a ++ b).takeWhile p = a ∧ (a ++ b).dropWhile p = b := by
  induction a with
  | nil =>
    rcases hb with rfl | ⟨d, t, rfl, hd⟩
    · exact ⟨rfl, rfl⟩
    · rw [List.nil_append, List.takeWhile_cons_of_neg (by rw [hd]; decide), List.dropWhile_cons_of_neg (by rw [hd]; decide)]
      exact ⟨rfl, rfl⟩
  | cons c a ih =>
    obtain ⟨h1, h2⟩ := ih (fun x hx => ha x (List.mem_cons_of_mem _ hx))
    have hc := ha c List.mem_cons_self
    rw [List.cons_append, List.takeWhile_cons_of_pos hc, List.dropWhile_cons_of_pos hc, h1, h2]
    exact ⟨rfl, rfl⟩
theorem zC9 {a b : List UInt8} (ha : ∀ c ∈ a, noMk c = true) (hb : b = [] ∨ ∃ d t, b = d :: t ∧ isMk d = true) : (a ++ b).takeWhile noMk = a ∧ (a ++ b).dropWhile noMk = b :=
  take_p ha (hb.imp_right fun ⟨d, t, e, h⟩ => ⟨d, t, e, by unfold noMk; rw [h]; rfl⟩)
theorem Zf3 (g : UInt8 → List UInt8) (hm : ∀ c, isMk c = true → g c = [c]) (o : List UInt8) : Zi0 o = true → (∀ c ∈ o, noMk c = true → ∀ d ∈ g c, noMk d = true) → ∀ A, cutA o (o.flatMap g) A = some (A ++ (o.filter noMk).map (fun c => (c, g c)), []) := by
  induction o with
  | nil => intro _ _ A; simp [cutA]
  | cons c o ih =>
    intro hg ha A
    rw [Zi0, Bool.and_eq_true] at hg
    have ih := ih hg.2 (fun x hx => ha x (List.mem_cons_of_mem _ hx))
    rw [cutA]
    cases hc : isMk c with
    | true =>
      rw [if_pos rfl, List.flatMap_cons, hm c hc, List.filter_cons_of_neg (by unfold noMk; rw [hc]; decide), List.cons_append, List.nil_append, zU4, Option.bind_some]
      exact ih A
    | false =>
      have hn : noMk c = true := by unfold noMk; rw [hc]; rfl
      have hb : o.flatMap g = [] ∨ ∃ d t, o.flatMap g = d :: t ∧ isMk d = true := by
        have h1 := hg.1
        rw [hc, Bool.false_or] at h1
        cases o with
        | nil => exact .inl rfl
        | cons d t => exact .inr ⟨d, t.flatMap g, by rw [List.flatMap_cons, hm d h1]; rfl, h1⟩
      obtain ⟨t1, t2⟩ := zC9 (ha c List.mem_cons_self hn) hb
      rw [if_neg (by decide), List.flatMap_cons, t1, t2, ih, List.filter_cons_of_pos hn, List.map_cons, List.append_assoc]
      rfl
def setO (p : List UInt8) : Option Int := ((List.range 16).find? fun (n : Nat) => decide (setT (n : Int) = p)).map fun (n : Nat) => (n : Int)
def putT (i : Ins) (c : UInt8) (p : List UInt8) : Ins × Bool :=
  if c = 100 then ({ i with rd := (regS p).getD 0 }, (regS p).isSome)
  else if c = 97 then ({ i with rs1 := (regS p).getD 0 }, (regS p).isSome)
  else if c = 98 then ({ i with rs2 := (regS p).getD 0 }, (regS p).isSome)
  else if c = 110 then ({ i with imm := (numV p).getD 0 }, (numV p).isSome)
  else if c = 112 then ({ i with pred := (setO p).getD 0 }, (setO p).isSome)
  else if c = 115 then ({ i with succ := (setO p).getD 0 }, (setO p).isSome)
  else (i, false)
theorem zL4 : ∀ n m : Fin 16, setT (n.val : Int) = setT (m.val : Int) → n = m := by decide +kernel
theorem zq9 (p : List UInt8) (n : Int) : setO p = some n ↔ (0 ≤ n ∧ n < 16) ∧ setT n = p := by
  unfold setO
  constructor
  · intro h
    obtain ⟨k, hk, rfl⟩ := Option.map_eq_some_iff.1 h
    have h1 := List.mem_range.1 (List.mem_of_find?_eq_some hk)
    have h2 : (fun (n : Nat) => decide (setT (n : Int) = p)) k = true := List.find?_some (p := fun (n : Nat) => decide (setT (n : Int) = p)) hk
    have h2 := of_decide_eq_true h2
    exact ⟨⟨by omega, by omega⟩, h2⟩
  · rintro ⟨hn, rfl⟩
    cases hf : (List.range 16).find? fun (m : Nat) => decide (setT (m : Int) = setT n) with
    | none =>
      have := List.find?_eq_none.1 hf n.toNat (List.mem_range.2 (by omega))
      rw [show ((n.toNat : Nat) : Int) = n by omega] at this
      simp at this
    | some k =>
      have h1 := List.mem_range.1 (List.mem_of_find?_eq_some hf)
      have h2 : (fun (m : Nat) => decide (setT (m : Int) = setT n)) k = true := List.find?_some (p := fun (m : Nat) => decide (setT (m : Int) = setT n)) hf
      have h2 := of_decide_eq_true h2
      have := zL4 ⟨k, h1⟩ ⟨n.toNat, by omega⟩
      simp only [show ((n.toNat : Nat) : Int) = n by omega] at this
      have := Fin.mk.inj (this h2)
      rw [Option.map_some]
      congr 1
      omega
end Go.Proofs.YtmamblgpekafbaaGreatDoor
namespace Go.Proofs.YtmamblgpekafbaaGreatDoor
open Go.RowKit
theorem zP1 {p : List UInt8} (h : (regS p).isSome = true) : regT ((regS p).getD 0) = p := by
  obtain ⟨r, hr⟩ := Option.isSome_iff_exists.1 h
  rw [hr]
  exact ((zw3 p r).1 hr).2
theorem num_get {p : List UInt8} (h : (numV p).isSome = true) : digI ((numV p).getD 0) = p := by
  obtain ⟨r, hr⟩ := Option.isSome_iff_exists.1 h
  rw [hr]
  exact ((zF2 p r).1 hr).2
theorem Zm8 {p : List UInt8} (h : (setO p).isSome = true) : setT ((setO p).getD 0) = p := by
  obtain ⟨r, hr⟩ := Option.isSome_iff_exists.1 h
  rw [hr]
  exact ((zq9 p r).1 hr).2
theorem put_same {i : Ins} {c : UInt8} {p : List UInt8} (h : (putT i c p).2 = true) : ze6 (putT i c p).1 c = p := by
  unfold putT at h ⊢
  by_cases c1 : c = 100
  · rw [if_pos c1] at h ⊢; unfold ze6; rw [if_pos c1]; exact zP1 h
  rw [if_neg c1] at h ⊢
  by_cases c2 : c = 97
  · rw [if_pos c2] at h ⊢; unfold ze6; rw [if_neg c1, if_pos c2]; exact zP1 h
  rw [if_neg c2] at h ⊢
  by_cases c3 : c = 98
  · rw [if_pos c3] at h ⊢; unfold ze6; rw [if_neg c1, if_neg c2, if_pos c3]; exact zP1 h
  rw [if_neg c3] at h ⊢
  by_cases c4 : c = 110
  · rw [if_pos c4] at h ⊢; unfold ze6; rw [if_neg c1, if_neg c2, if_neg c3, if_pos c4]; exact num_get h
  rw [if_neg c4] at h ⊢
  by_cases c5 : c = 112
  · rw [if_pos c5] at h ⊢; unfold ze6; rw [if_neg c1, if_neg c2, if_neg c3, if_neg c4, if_pos c5]; exact Zm8 h
  rw [if_neg c5] at h ⊢
  by_cases c6 : c = 115
  · rw [if_pos c6] at h ⊢; unfold ze6; rw [if_neg c1, if_neg c2, if_neg c3, if_neg c4, if_neg c5, if_pos c6]; exact Zm8 h
  rw [if_neg c6] at h
  cases h
theorem Zp5 {i : Ins} {c d : UInt8} {p : List UInt8} (h : d ≠ c) : ze6 (putT i c p).1 d = ze6 i d := by
  unfold putT
  by_cases c1 : c = 100
  · subst c1; rw [if_pos rfl]; unfold ze6; rw [if_neg h, if_neg h]
  rw [if_neg c1]
  by_cases c2 : c = 97
  · subst c2; rw [if_pos rfl]; unfold ze6; rw [if_neg h, if_neg h]
  rw [if_neg c2]
  by_cases c3 : c = 98
  · subst c3; rw [if_pos rfl]; unfold ze6; rw [if_neg h, if_neg h]
  rw [if_neg c3]
  by_cases c4 : c = 110
  · subst c4; rw [if_pos rfl]; unfold ze6; rw [if_neg h, if_neg h]
  rw [if_neg c4]
  by_cases c5 : c = 112
  · subst c5; rw [if_pos rfl]; unfold ze6; rw [if_neg h, if_neg h]
  rw [if_neg c5]
  by_cases c6 : c = 115
  · subst c6; rw [if_pos rfl]; unfold ze6; rw [if_neg h, if_neg h]
  rw [if_neg c6]
theorem put_op (i : Ins) (c : UInt8) (p : List UInt8) : (putT i c p).1.op = i.op ∧ (putT i c p).1.aq = i.aq ∧ (putT i c p).1.rl = i.rl := by
  unfold putT
  (repeat' split) <;> exact ⟨rfl, rfl, rfl⟩
def zf1 : Ins → List (UInt8 × List UInt8) → Bool → Ins × Bool
  | i, [], b => (i, b)
  | i, x :: l, b => zf1 (putT i x.1 x.2).1 l ((putT i x.1 x.2).2 && b)
theorem zL0 (l : List (UInt8 × List UInt8)) : (l.map Prod.fst).Nodup → ∀ i b, (zf1 i l b).2 = true → b = true ∧ (∀ x ∈ l, ze6 (zf1 i l b).1 x.1 = x.2) ∧ (∀ d, d ∉ l.map Prod.fst → ze6 (zf1 i l b).1 d = ze6 i d) ∧ (zf1 i l b).1.op = i.op ∧ (zf1 i l b).1.aq = i.aq ∧ (zf1 i l b).1.rl = i.rl := by
  induction l with
  | nil => intro _ i b h; exact ⟨h, fun x hx => absurd hx List.not_mem_nil, fun d _ => rfl, rfl, rfl, rfl⟩
  | cons x l ih =>
    intro hn i b h
    rw [List.map_cons, List.nodup_cons] at hn
    rw [zf1] at h ⊢
    obtain ⟨h1, h2, h3, h4, h5, h6⟩ := ih hn.2 _ _ h
    rw [Bool.and_eq_true] at h1
    obtain ⟨o1, o2, o3⟩ := put_op i x.1 x.2
    refine ⟨h1.2, fun y hy => ?_, fun d hd => ?_, h4.trans o1, h5.trans o2, h6.trans o3⟩
    · rcases List.mem_cons.1 hy with rfl | hy
      · rw [h3 _ hn.1]; exact put_same h1.1
      · exact h2 y hy
    · rw [List.map_cons, List.mem_cons, not_or] at hd
      rw [h3 d hd.2]
      exact Zp5 hd.1
def tryN (name : List UInt8) (aq rl : Bool) : Int := if Lib.hasSuffix name (annT aq rl) then bynm (Lib.trimSuffix name (annT aq rl)) else 0
def zl9 (name : List UInt8) : Int × Bool × Bool :=
  if tryN name false false ≠ 0 then (tryN name false false, false, false) else if tryN name false true ≠ 0 then (tryN name false true, false, true)
  else if tryN name true false ≠ 0 then (tryN name true false, true, false) else if tryN name true true ≠ 0 then (tryN name true true, true, true) else (0, false, false)
def zc9 (name : List UInt8) : Ins := zl0 (zl9 name).1 (zl9 name).2.1 (zl9 name).2.2
theorem Zr1 {l : List UInt8} (h : bynm l ≠ 0) : (1 ≤ bynm l ∧ bynm l ≤ 75) ∧ nmO (bynm l) = l := by
  unfold bynm at h ⊢
  split at h
  · next hm =>
    have hl := List.idxOf_lt_length_of_mem hm
    rw [zt3] at hl
    rw [if_pos hm]
    refine ⟨⟨by omega, by omega⟩, ?_⟩
    unfold nmO
    rw [if_pos ⟨by omega, by omega⟩, show ((nmL.idxOf l : Int) + 1).toNat - 1 = nmL.idxOf l by omega, List.getD_eq_getElem?_getD, List.getElem?_eq_getElem (by rw [zt3]; exact hl)]
    exact List.getElem_idxOf (by rw [zt3]; exact hl)
  · exact absurd rfl h
theorem zo2 {name : List UInt8} {aq rl : Bool} (h : tryN name aq rl ≠ 0) : (1 ≤ tryN name aq rl ∧ tryN name aq rl ≤ 75) ∧ name = nmO (tryN name aq rl) ++ annT aq rl := by
  unfold tryN at h ⊢
  split at h
  · next hs =>
    rw [if_pos hs]
    obtain ⟨h1, h2⟩ := Zr1 h
    refine ⟨h1, ?_⟩
    rw [h2]
    unfold Lib.trimSuffix
    rw [if_pos hs]
    unfold Lib.hasSuffix at hs
    obtain ⟨t, ht⟩ := List.isSuffixOf_iff_suffix.1 hs
    rw [← ht, List.length_append, Nat.add_sub_cancel, List.take_left]
  · exact absurd rfl h
theorem zx5 {name : List UInt8} (h : (zc9 name).op ≠ 0) : (1 ≤ (zc9 name).op ∧ (zc9 name).op ≤ 75) ∧ name = nmO (zc9 name).op ++ annT (zc9 name).aq (zc9 name).rl := by
  have e : ∀ op aq rl, (zl0 op aq rl).op = op ∧ (zl0 op aq rl).aq = aq ∧ (zl0 op aq rl).rl = rl := fun _ _ _ => ⟨rfl, rfl, rfl⟩
  unfold zc9 at h ⊢
  obtain ⟨e1, e2, e3⟩ := e (zl9 name).1 (zl9 name).2.1 (zl9 name).2.2
  rw [e1] at h
  rw [e1, e2, e3]
  unfold zl9 at h ⊢
  by_cases h1 : tryN name false false ≠ 0
  · rw [if_pos h1]; exact zo2 h1
  rw [if_neg h1] at h ⊢
  by_cases h2 : tryN name false true ≠ 0
  · rw [if_pos h2]; exact zo2 h2
  rw [if_neg h2] at h ⊢
  by_cases h3 : tryN name true false ≠ 0
  · rw [if_pos h3]; exact zo2 h3
  rw [if_neg h3] at h ⊢
  by_cases h4 : tryN name true true ≠ 0
  · rw [if_pos h4]; exact zo2 h4
  rw [if_neg h4] at h
  exact absurd rfl h
theorem zP0 : ∀ k : Fin 75, ∀ aq rl : Bool, zl9 (nmO ((k.val : Int) + 1) ++ annT aq rl) = ((k.val : Int) + 1, aq, rl) := by decide +kernel
theorem Zg5 {op : Int} (h : 1 ≤ op ∧ op ≤ 75) (aq rl : Bool) : zc9 (nmO op ++ annT aq rl) = zl0 op aq rl := by
  have := zP0 ⟨op.toNat - 1, by omega⟩ aq rl
  rw [show ((op.toNat - 1 : Nat) : Int) + 1 = op by omega] at this
  unfold zc9
  rw [this]
def sixL : List UInt8 := [100, 97, 98, 110, 112, 115]
theorem zx3 : ∀ k : Fin 13, Zi0 (shpL.getD k.val []) = true ∧ ((shpL.getD k.val []).filter noMk).Nodup ∧ ∀ c ∈ shpL.getD k.val [], noMk c = true → c ∈ sixL := by decide +kernel
theorem zV5 (op : Int) : Zi0 (shpT op) = true ∧ ((shpT op).filter noMk).Nodup ∧ ∀ c ∈ shpT op, noMk c = true → c ∈ sixL := by
  have hs := zd0 op
  unfold shpT
  by_cases h3 : op = 3
  · rw [if_pos h3]; exact zx3 1
  rw [if_neg h3]
  by_cases h51 : op = 51
  · rw [if_pos h51]; exact zx3 0
  rw [if_neg h51]
  exact zx3 ⟨(srt op).toNat, by omega⟩
theorem Ze4 : ∀ k : Fin 75, (¬ 100 ∈ shpT ((k.val : Int) + 1) → wrB ((k.val : Int) + 1) = false) ∧ (¬ 97 ∈ shpT ((k.val : Int) + 1) → firB ((k.val : Int) + 1) = false) ∧ (¬ 98 ∈ shpT ((k.val : Int) + 1) → secB ((k.val : Int) + 1) = false)
    ∧ (¬ 110 ∈ shpT ((k.val : Int) + 1) → shV ((k.val : Int) + 1) = 0 ∧ fmV ((k.val : Int) + 1) = 0) ∧ (¬ 112 ∈ shpT ((k.val : Int) + 1) → (k.val : Int) + 1 ≠ 50) ∧ (¬ 115 ∈ shpT ((k.val : Int) + 1) → (k.val : Int) + 1 ≠ 50) := by decide +kernel
theorem shp_lack {op : Int} (h : 1 ≤ op ∧ op ≤ 75) : (¬ 100 ∈ shpT op → wrB op = false) ∧ (¬ 97 ∈ shpT op → firB op = false) ∧ (¬ 98 ∈ shpT op → secB op = false)
    ∧ (¬ 110 ∈ shpT op → shV op = 0 ∧ fmV op = 0) ∧ (¬ 112 ∈ shpT op → op ≠ 50) ∧ (¬ 115 ∈ shpT op → op ≠ 50) := by
  have := Ze4 ⟨op.toNat - 1, by omega⟩
  rw [show ((op.toNat - 1 : Nat) : Int) + 1 = op by omega] at this
  exact this
def no32 (c : UInt8) : Bool := c != 32
def zf9 (s : List UInt8) : List UInt8 := s.takeWhile no32
def zt2 (s : List UInt8) : List UInt8 := s.dropWhile no32
def zq3 (s : List UInt8) : Option Ins :=
  match cutA (shpT (zc9 (zf9 s)).op) (zt2 s) [] with
  | none => none
  | some x => if (zf1 (zc9 (zf9 s)) x.1 (decide (x.2 = []))).2 && rgtB (zf1 (zc9 (zf9 s)) x.1 (decide (x.2 = []))).1 then some (zf1 (zc9 (zf9 s)) x.1 (decide (x.2 = []))).1 else none
theorem zK7 (i : Ins) (c : UInt8) (h : isMk c = true) : ze6 i c = [c] := by
  have : c = 32 ∨ c = 44 ∨ c = 40 ∨ c = 41 := by
    unfold isMk at h
    simp only [Bool.or_eq_true, beq_iff_eq] at h
    rcases h with ((h | h) | h) | h
    · exact .inl h
    · exact .inr (.inl h)
    · exact .inr (.inr (.inl h))
    · exact .inr (.inr (.inr h))
  rcases this with rfl | rfl | rfl | rfl <;> rfl
theorem zN1 {s : List UInt8} {j : Ins} (h : zq3 s = some j) : Rgt j ∧ zN3 j = s := by
  unfold zq3 at h
  split at h
  · cases h
  · next x hx =>
    split at h
    · next hq =>
      obtain rfl := Option.some.inj h
      rw [Bool.and_eq_true] at hq
      have hR := (zj3 _).1 hq.2
      obtain ⟨D, h1, h2, h3⟩ := zH1 _ _ _ _ _ (show cutA _ _ _ = some (x.1, x.2) from hx)
      rw [List.nil_append] at h1
      rw [h1] at hq hR ⊢
      have hnd : (D.map Prod.fst).Nodup := by rw [h2]; exact (zV5 _).2.1
      obtain ⟨p1, p2, p3, p4, p5, p6⟩ := zL0 D hnd _ _ hq.1
      refine ⟨hR, ?_⟩
      have hop := hR.op
      rw [zt5 hop]
      rw [p4] at hop
      rw [p4, p5, p6]
      obtain ⟨n1, n2⟩ := zx5 (name := zf9 s) (by omega)
      rw [← n2]
      have e := h3 (ze6 (zf1 (zc9 (zf9 s)) D (decide (x.2 = []))).1) (fun c hc => zK7 _ c hc) p2
      have hx0 : x.2 = [] := of_decide_eq_true p1
      rw [hx0, List.append_nil] at e
      rw [hx0, ← e]
      exact List.takeWhile_append_dropWhile
    · cases h
def zr1 (L : List UInt8) (j i : Ins) : Ins :=
  ⟨i.op, if 100 ∈ L then j.rd else i.rd, if 97 ∈ L then j.rs1 else i.rs1, if 98 ∈ L then j.rs2 else i.rs2, if 110 ∈ L then j.imm else i.imm, i.aq, i.rl, if 112 ∈ L then j.pred else i.pred, if 115 ∈ L then j.succ else i.succ⟩
theorem fold_put {j : Ins} (h1 : 0 ≤ j.rd ∧ j.rd ≤ 31) (h2 : 0 ≤ j.rs1 ∧ j.rs1 ≤ 31) (h3 : 0 ≤ j.rs2 ∧ j.rs2 ≤ 31) (h4 : I64 j.imm) (h5 : 0 ≤ j.pred ∧ j.pred < 16) (h6 : 0 ≤ j.succ ∧ j.succ < 16) (L : List UInt8) :
    (∀ c ∈ L, c ∈ sixL) → ∀ i, zf1 i (L.map fun c => (c, ze6 j c)) true = (zr1 L j i, true) := by
  have r1 := (zw3 _ _).2 ⟨h1, rfl⟩
  have r2 := (zw3 _ _).2 ⟨h2, rfl⟩
  have r3 := (zw3 _ _).2 ⟨h3, rfl⟩
  have r4 := (zF2 _ _).2 ⟨h4, rfl⟩
  have r5 := (zq9 _ _).2 ⟨h5, rfl⟩
  have r6 := (zq9 _ _).2 ⟨h6, rfl⟩
  induction L with
  | nil => intro _ i; rfl
  | cons c L ih =>
    intro hL i
    have ih := ih (fun x hx => hL x (List.mem_cons_of_mem _ hx))
    have hc := hL c List.mem_cons_self
    rw [List.map_cons, zf1]
    simp only [sixL, List.mem_cons, List.not_mem_nil, or_false] at hc
    rcases hc with rfl | rfl | rfl | rfl | rfl | rfl
    · rw [show putT i 100 (ze6 j 100) = ({ i with rd := j.rd }, true) by show (({ i with rd := (regS (regT j.rd)).getD 0 } : Ins), (regS (regT j.rd)).isSome) = _; rw [r1]; rfl]
      rw [show (true && true) = true from rfl, ih]
      simp [zr1]
    · rw [show putT i 97 (ze6 j 97) = ({ i with rs1 := j.rs1 }, true) by show (({ i with rs1 := (regS (regT j.rs1)).getD 0 } : Ins), (regS (regT j.rs1)).isSome) = _; rw [r2]; rfl]
      rw [show (true && true) = true from rfl, ih]
      simp [zr1]
    · rw [show putT i 98 (ze6 j 98) = ({ i with rs2 := j.rs2 }, true) by show (({ i with rs2 := (regS (regT j.rs2)).getD 0 } : Ins), (regS (regT j.rs2)).isSome) = _; rw [r3]; rfl]
      rw [show (true && true) = true from rfl, ih]
      simp [zr1]
    · rw [show putT i 110 (ze6 j 110) = ({ i with imm := j.imm }, true) by show (({ i with imm := (numV (digI j.imm)).getD 0 } : Ins), (numV (digI j.imm)).isSome) = _; rw [r4]; rfl]
      rw [show (true && true) = true from rfl, ih]
      simp [zr1]
    · rw [show putT i 112 (ze6 j 112) = ({ i with pred := j.pred }, true) by show (({ i with pred := (setO (setT j.pred)).getD 0 } : Ins), (setO (setT j.pred)).isSome) = _; rw [r5]; rfl]
      rw [show (true && true) = true from rfl, ih]
      simp [zr1]
    · rw [show putT i 115 (ze6 j 115) = ({ i with succ := j.succ }, true) by show (({ i with succ := (setO (setT j.succ)).getD 0 } : Ins), (setO (setT j.succ)).isSome) = _; rw [r6]; rfl]
      rw [show (true && true) = true from rfl, ih]
      simp [zr1]
theorem zz4 {c : UInt8} (h : isW c = true) : noMk c = true := by
  have := of_decide_eq_true h
  unfold noMk isMk
  rw [Bool.not_eq_true']
  simp only [Bool.or_eq_false_iff, beq_eq_false_iff_ne]
  refine ⟨⟨⟨?_, ?_⟩, ?_⟩, ?_⟩ <;> (rintro rfl; revert this; decide)
theorem part_W {j : Ins} (h5 : 0 ≤ j.pred ∧ j.pred < 16) (h6 : 0 ≤ j.succ ∧ j.succ < 16) {c : UInt8} (hc : c ∈ sixL) : ∀ d ∈ ze6 j c, noMk d = true := by
  simp only [sixL, List.mem_cons, List.not_mem_nil, or_false] at hc
  rcases hc with rfl | rfl | rfl | rfl | rfl | rfl
  · exact fun d hd => zz4 (zx7 j.rd d hd)
  · exact fun d hd => zz4 (zx7 j.rs1 d hd)
  · exact fun d hd => zz4 (zx7 j.rs2 d hd)
  · exact fun d hd => zz4 (zI7 j.imm d hd)
  · exact fun d hd => zz4 ((zF6 h5).1 d hd)
  · exact fun d hd => zz4 ((zF6 h6).1 d hd)
theorem shp_head (op : Int) : shpT op = [] ∨ ∃ t, shpT op = 32 :: t := by
  have hall : ∀ k : Fin 13, shpL.getD k.val [] = [] ∨ (shpL.getD k.val []).head? = some 32 := by decide
  have hs := zd0 op
  unfold shpT
  by_cases h3 : op = 3
  · rw [if_pos h3]; exact .inr ⟨_, rfl⟩
  rw [if_neg h3]
  by_cases h51 : op = 51
  · rw [if_pos h51]; exact .inl rfl
  rw [if_neg h51]
  rcases hall ⟨(srt op).toNat, by omega⟩ with h | h
  · exact .inl h
  · right
    cases hl : shpL.getD (srt op).toNat [] with
    | nil => rw [hl] at h; cases h
    | cons a t => rw [hl] at h; rw [Option.some.inj h]; exact ⟨t, rfl⟩
theorem zX4 {j : Ins} (h : Rgt j) : zq3 (zN3 j) = some j := by
  have hop := h.op
  have h5 : 0 ≤ j.pred ∧ j.pred < 16 := by
    by_cases e : j.op = 50
    · exact ⟨(h.fen e).1, (h.fen e).2.1⟩
    · by_cases e' : j.op = 51
      · rw [(h.tso e').1]; decide
      · rw [(h.oth e e').1]; decide
  have h6 : 0 ≤ j.succ ∧ j.succ < 16 := by
    by_cases e : j.op = 50
    · exact (h.fen e).2.2
    · by_cases e' : j.op = 51
      · rw [(h.tso e').2]; decide
      · rw [(h.oth e e').2]; decide
  obtain ⟨g1, g2, g3⟩ := zV5 j.op
  have hW := (Ze6 hop j.aq j.rl).1
  have hb : (shpT j.op).flatMap (ze6 j) = [] ∨ ∃ d t, (shpT j.op).flatMap (ze6 j) = d :: t ∧ no32 d = false := by
    rcases shp_head j.op with e | ⟨t, e⟩
    · rw [e]; exact .inl rfl
    · rw [e]; exact .inr ⟨32, t.flatMap (ze6 j), rfl, rfl⟩
  obtain ⟨t1, t2⟩ := take_p (p := no32) (a := nmO j.op ++ annT j.aq j.rl) (b := (shpT j.op).flatMap (ze6 j)) (fun c hc => by
    have := of_decide_eq_true (hW c hc)
    unfold no32
    rw [bne_iff_ne]
    rintro rfl
    revert this
    decide) hb
  have e1 : zf9 (zN3 j) = nmO j.op ++ annT j.aq j.rl := by rw [zt5 hop]; exact t1
  have e2 : zt2 (zN3 j) = (shpT j.op).flatMap (ze6 j) := by rw [zt5 hop]; exact t2
  have e3 := Zg5 hop j.aq j.rl
  have hcut := Zf3 (ze6 j) (zK7 j) (shpT j.op) g1 (fun c hc hn => part_W h5 h6 (g3 c hc hn)) []
  have hput := fold_put h.rd h.rs1 h.rs2 (imm_I64 h) h5 h6 ((shpT j.op).filter noMk) (fun c hc => g3 c (List.mem_filter.1 hc).1 (List.mem_filter.1 hc).2) (zl0 j.op j.aq j.rl)
  have hj : zr1 ((shpT j.op).filter noMk) j (zl0 j.op j.aq j.rl) = j := by
    obtain ⟨l1, l2, l3, l4, l5, l6⟩ := shp_lack hop
    have hin : ∀ c : UInt8, noMk c = true → (c ∈ (shpT j.op).filter noMk ↔ c ∈ shpT j.op) := fun c hc => by rw [List.mem_filter]; exact ⟨fun x => x.1, fun x => ⟨x, hc⟩⟩
    have w1 := h.wr
    have w2 := h.fir
    have w3 := h.sec
    have w4 := h.non
    have w5 := h.tso
    have w6 := h.oth
    obtain ⟨op, rd, rs1, rs2, imm, aq, rl, pred, succ⟩ := j
    unfold zr1 zl0
    simp only [hin 100 rfl, hin 97 rfl, hin 98 rfl, hin 110 rfl, hin 112 rfl, hin 115 rfl] at *
    congr 1
    · split
      · rfl
      · next hh => exact (w1 (l1 hh)).symm
    · split
      · rfl
      · next hh => exact (w2 (l2 hh)).symm
    · split
      · rfl
      · next hh => exact (w3 (l3 hh)).symm
    · split
      · rfl
      · next hh => exact (w4 (l4 hh).1 (l4 hh).2).symm
    · split
      · rfl
      · next hh =>
        by_cases e : op = 51
        · rw [if_pos e]; exact (w5 e).1.symm
        · rw [if_neg e]; exact (w6 (l5 hh) e).1.symm
    · split
      · rfl
      · next hh =>
        by_cases e : op = 51
        · rw [if_pos e]; exact (w5 e).2.symm
        · rw [if_neg e]; exact (w6 (l6 hh) e).2.symm
  unfold zq3
  rw [e1, e2, e3]
  rw [show (zl0 j.op j.aq j.rl).op = j.op from rfl, hcut]
  simp only [List.nil_append, decide_true]
  rw [hput, hj, (zj3 j).2 h]
  rfl
theorem zH9 (s : List UInt8) (j : Ins) : zq3 s = some j ↔ Rgt j ∧ zN3 j = s := ⟨zN1, fun ⟨h, e⟩ => e ▸ zX4 h⟩
end Go.Proofs.YtmamblgpekafbaaGreatDoor
