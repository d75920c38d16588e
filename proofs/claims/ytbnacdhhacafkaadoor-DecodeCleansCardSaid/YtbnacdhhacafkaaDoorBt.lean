/- Immediates' places in a word, and what is put, read and masked by them, as plain numbers. Nothing here speaks of a program. -/
import Derived.Test.YtbnacdhhacafkaaDoorNum
import Derived.WalkKit
namespace Go.Proofs.YtbnacdhhacafkaaDoor
open Go.RowKit

/-- Of a word's bit the immediate's; -1: none. -/
def plc (f : Int) (i : Nat) : Int :=
  if f = 1 then (if 20 ≤ i then (i : Int) - 20 else -1)
  else if f = 2 then (if 7 ≤ i ∧ i ≤ 11 then (i : Int) - 7 else if 25 ≤ i then (i : Int) - 20 else -1)
  else if f = 3 then (if 8 ≤ i ∧ i ≤ 11 then (i : Int) - 7 else if 25 ≤ i ∧ i ≤ 30 then (i : Int) - 20 else if i = 7 then 11 else if i = 31 then 12 else -1)
  else if f = 4 then (if 12 ≤ i then (i : Int) else -1)
  else if f = 5 then (if 21 ≤ i ∧ i ≤ 30 then (i : Int) - 20 else if i = 20 then 11 else if 12 ≤ i ∧ i ≤ 19 then (i : Int) else if i = 31 then 20 else -1)
  else -1
theorem plc_no {f : Int} (h : ¬ (1 ≤ f ∧ f ≤ 5)) (i : Nat) : plc f i = -1 := by
  unfold plc
  rw [if_neg (by omega), if_neg (by omega), if_neg (by omega), if_neg (by omega), if_neg (by omega)]
theorem plc_range (f : Int) (i : Nat) (hi : i < 32) : -1 ≤ plc f i ∧ plc f i ≤ 31 := by
  unfold plc
  split <;> (try split) <;> (try split) <;> (try split) <;> (try split) <;> (try split) <;> (try split) <;> (try split) <;> omega
theorem plc_f1 {f : Int} (h : f = 1) (i : Nat) : (20 ≤ i ∧ plc f i = (i : Int) - 20) ∨ (i < 20 ∧ plc f i = -1) := by
  subst h; unfold plc; simp only [if_pos]; split <;> omega
theorem plc_f2 {f : Int} (h : f = 2) (i : Nat) : (7 ≤ i ∧ i ≤ 11 ∧ plc f i = (i : Int) - 7) ∨ (25 ≤ i ∧ plc f i = (i : Int) - 20) ∨ ((i < 7 ∨ 11 < i ∧ i < 25) ∧ plc f i = -1) := by
  subst h; unfold plc; rw [if_neg (by decide), if_pos rfl]; split <;> (try split) <;> omega
theorem plc_f3 {f : Int} (h : f = 3) (i : Nat) : (8 ≤ i ∧ i ≤ 11 ∧ plc f i = (i : Int) - 7) ∨ (25 ≤ i ∧ i ≤ 30 ∧ plc f i = (i : Int) - 20) ∨ (i = 7 ∧ plc f i = 11) ∨ (i = 31 ∧ plc f i = 12) ∨ ((i < 7 ∨ 11 < i ∧ i < 25 ∨ 31 < i) ∧ plc f i = -1) := by
  subst h; unfold plc; rw [if_neg (by decide), if_neg (by decide), if_pos rfl]; split <;> (try split) <;> (try split) <;> (try split) <;> omega
theorem plc_f4 {f : Int} (h : f = 4) (i : Nat) : (12 ≤ i ∧ plc f i = (i : Int)) ∨ (i < 12 ∧ plc f i = -1) := by
  subst h; unfold plc; rw [if_neg (by decide), if_neg (by decide), if_neg (by decide), if_pos rfl]; split <;> omega
theorem plc_f5 {f : Int} (h : f = 5) (i : Nat) : (21 ≤ i ∧ i ≤ 30 ∧ plc f i = (i : Int) - 20) ∨ (i = 20 ∧ plc f i = 11) ∨ (12 ≤ i ∧ i ≤ 19 ∧ plc f i = (i : Int)) ∨ (i = 31 ∧ plc f i = 20) ∨ ((i < 12 ∨ 31 < i) ∧ plc f i = -1) := by
  subst h; unfold plc; rw [if_neg (by decide), if_neg (by decide), if_neg (by decide), if_neg (by decide), if_pos rfl]; split <;> (try split) <;> (try split) <;> (try split) <;> omega
def cellI (f : Int) (i : Nat) : Value := .int .i64 (plc f i)
def plcs (f : Int) (k : Nat) : List Value := (List.range k).map (cellI f)
def zer (m : Nat) : List Value := List.replicate m (.int .i64 0)
theorem plcs_len (f : Int) (k : Nat) : (plcs f k).length = k := by simp [plcs]
theorem plcs_set (f : Int) (k : Nat) (hk : k < 32) : (plcs f k ++ zer (32 - k)).set k (.int .i64 (plc f k)) = plcs f (k + 1) ++ zer (32 - (k + 1)) := by
  rw [List.set_append_right _ _ (by rw [plcs_len]; omega), plcs_len, Nat.sub_self]
  unfold zer plcs
  rw [show 32 - k = (32 - (k + 1)) + 1 by omega, List.replicate_succ, List.set_cons_zero, List.range_succ, List.map_append]
  simp [cellI]
def plcV (f : Int) : Array Value := (plcs f 32).toArray
theorem plcV_at (f : Int) {i : Nat} (h : i < 32) : (plcV f)[i]? = some (.int .i64 (plc f i)) := by
  unfold plcV plcs cellI
  simp [h]
theorem plcV_size (f : Int) : (plcV f).size = 32 := by unfold plcV; simp [plcs]
theorem plcV_one (f : Int) : (plcV f).all (·.oneCell') = true := by
  rw [Array.all_eq_true_iff_forall_mem]
  intro v hv
  unfold plcV plcs at hv
  simp at hv
  obtain ⟨i, _, rfl⟩ := hv
  rfl

/-! ### What is put, read and masked: bit by bit, from the lowest one up -/
def putK (f u : Int) : Nat → Int
  | 0 => 0
  | k + 1 => putK f u k + (if 0 ≤ plc f k ∧ u / 2 ^ (plc f k).toNat % 2 = 1 then 2 ^ k else 0)
def getK (f w : Int) : Nat → Int
  | 0 => 0
  | k + 1 => getK f w k + (if 0 ≤ plc f k ∧ w / 2 ^ k % 2 = 1 then (if k = 31 then -(2 ^ (plc f k).toNat) else 2 ^ (plc f k).toNat) else 0)
def mskK (f : Int) : Nat → Int
  | 0 => 0
  | k + 1 => mskK f k + (if 0 ≤ plc f k then 2 ^ k else 0)
theorem putK_succ (f u : Int) (k : Nat) : putK f u (k + 1) = putK f u k + (if 0 ≤ plc f k ∧ u / 2 ^ (plc f k).toNat % 2 = 1 then 2 ^ k else 0) := rfl
theorem getK_succ (f w : Int) (k : Nat) : getK f w (k + 1) = getK f w k + (if 0 ≤ plc f k ∧ w / 2 ^ k % 2 = 1 then (if k = 31 then -(2 ^ (plc f k).toNat) else 2 ^ (plc f k).toNat) else 0) := rfl
theorem mskK_succ (f : Int) (k : Nat) : mskK f (k + 1) = mskK f k + (if 0 ≤ plc f k then 2 ^ k else 0) := rfl
theorem p2pos (k : Nat) : (0 : Int) < 2 ^ k := Int.pow_pos (by decide)
theorem p2le {i j : Nat} (h : i ≤ j) : (2 : Int) ^ i ≤ 2 ^ j := by exact_mod_cast Nat.pow_le_pow_right (by decide : 0 < 2) h
theorem putK_range (f u : Int) (k : Nat) : 0 ≤ putK f u k ∧ putK f u k < 2 ^ k := by
  induction k with
  | zero => exact ⟨Int.le_refl _, Int.zero_lt_one⟩
  | succ k ih =>
    have h := p2pos k
    have e : (2 : Int) ^ (k + 1) = 2 * 2 ^ k := by rw [Int.pow_succ]; omega
    unfold putK
    rw [e]
    split <;> omega
theorem mskK_range (f : Int) (k : Nat) : 0 ≤ mskK f k ∧ mskK f k < 2 ^ k := by
  induction k with
  | zero => exact ⟨Int.le_refl _, Int.zero_lt_one⟩
  | succ k ih =>
    have h := p2pos k
    have e : (2 : Int) ^ (k + 1) = 2 * 2 ^ k := by rw [Int.pow_succ]; omega
    unfold mskK
    rw [e]
    split <;> omega
theorem getK_range (f w : Int) (k : Nat) (hk : k ≤ 32) : -(2147483648 * (k : Int)) ≤ getK f w k ∧ getK f w k ≤ 2147483648 * k := by
  induction k with
  | zero => exact ⟨Int.le_refl _, Int.le_refl _⟩
  | succ k ih =>
    have ih := ih (by omega)
    have hp := plc_range f k (by omega)
    have h := p2pos (plc f k).toNat
    have h2 : (2 : Int) ^ (plc f k).toNat ≤ 2 ^ 31 := p2le (by omega)
    have e : (2 : Int) ^ 31 = 2147483648 := by decide
    rw [e] at h2
    unfold getK
    split
    · split <;> omega
    · omega
end Go.Proofs.YtbnacdhhacafkaaDoor
