/- What a word's instruction is: plain. Nothing here speaks of a program. -/
import Derived.Test.YtbnacdhhacafkaaDoorTd
import Derived.Test.YtbnacdhhacafkaaDoorSz
import Derived.Test.YtbnacdhhacafkaaDoorInst
import Derived.Test.YtbnacdhhacafkaaDoorBt
namespace Go.Proofs.YtbnacdhhacafkaaDoor
open Go.RowKit

/-- Classes of operations: what their instructions have. -/
def clL : List Nat := [0, 0, 1, 2, 3, 3, 3, 3, 3, 3, 2, 2, 2, 2, 2, 2, 2, 4, 4, 4, 4, 2, 2, 2, 2, 2, 2, 5, 5, 5, 2, 6, 6, 6, 7, 7, 7, 7, 7, 7, 7, 7, 7, 7, 7, 7, 7, 7, 7, 8, 9, 10, 10, 11, 11, 12, 12, 12, 12, 12, 12, 12, 12, 12, 12, 12, 12, 12, 12, 12, 12, 12, 12, 12, 12]
theorem cls_0 : ∀ k : Fin 75, clL.getD k.val 99 = 0 → wrB ((k.val : Int) + 1) = true ∧ firB ((k.val : Int) + 1) = false ∧ secB ((k.val : Int) + 1) = false ∧ fmV ((k.val : Int) + 1) = 4 ∧ shV ((k.val : Int) + 1) = 0 ∧ srt ((k.val : Int) + 1) < 10 ∧ (k.val : Int) + 1 ≠ 50 ∧ (k.val : Int) + 1 ≠ 51 := by decide
theorem cls_1 : ∀ k : Fin 75, clL.getD k.val 99 = 1 → wrB ((k.val : Int) + 1) = true ∧ firB ((k.val : Int) + 1) = false ∧ secB ((k.val : Int) + 1) = false ∧ fmV ((k.val : Int) + 1) = 5 ∧ shV ((k.val : Int) + 1) = 0 ∧ srt ((k.val : Int) + 1) < 10 ∧ (k.val : Int) + 1 ≠ 50 ∧ (k.val : Int) + 1 ≠ 51 := by decide
theorem cls_2 : ∀ k : Fin 75, clL.getD k.val 99 = 2 → wrB ((k.val : Int) + 1) = true ∧ firB ((k.val : Int) + 1) = true ∧ secB ((k.val : Int) + 1) = false ∧ fmV ((k.val : Int) + 1) = 1 ∧ shV ((k.val : Int) + 1) = 0 ∧ srt ((k.val : Int) + 1) < 10 ∧ (k.val : Int) + 1 ≠ 50 ∧ (k.val : Int) + 1 ≠ 51 := by decide
theorem cls_3 : ∀ k : Fin 75, clL.getD k.val 99 = 3 → wrB ((k.val : Int) + 1) = false ∧ firB ((k.val : Int) + 1) = true ∧ secB ((k.val : Int) + 1) = true ∧ fmV ((k.val : Int) + 1) = 3 ∧ shV ((k.val : Int) + 1) = 0 ∧ srt ((k.val : Int) + 1) < 10 ∧ (k.val : Int) + 1 ≠ 50 ∧ (k.val : Int) + 1 ≠ 51 := by decide
theorem cls_4 : ∀ k : Fin 75, clL.getD k.val 99 = 4 → wrB ((k.val : Int) + 1) = false ∧ firB ((k.val : Int) + 1) = true ∧ secB ((k.val : Int) + 1) = true ∧ fmV ((k.val : Int) + 1) = 2 ∧ shV ((k.val : Int) + 1) = 0 ∧ srt ((k.val : Int) + 1) < 10 ∧ (k.val : Int) + 1 ≠ 50 ∧ (k.val : Int) + 1 ≠ 51 := by decide
theorem cls_5 : ∀ k : Fin 75, clL.getD k.val 99 = 5 → wrB ((k.val : Int) + 1) = true ∧ firB ((k.val : Int) + 1) = true ∧ secB ((k.val : Int) + 1) = false ∧ fmV ((k.val : Int) + 1) = 0 ∧ shV ((k.val : Int) + 1) = 6 ∧ srt ((k.val : Int) + 1) < 10 ∧ (k.val : Int) + 1 ≠ 50 ∧ (k.val : Int) + 1 ≠ 51 := by decide
theorem cls_6 : ∀ k : Fin 75, clL.getD k.val 99 = 6 → wrB ((k.val : Int) + 1) = true ∧ firB ((k.val : Int) + 1) = true ∧ secB ((k.val : Int) + 1) = false ∧ fmV ((k.val : Int) + 1) = 0 ∧ shV ((k.val : Int) + 1) = 5 ∧ srt ((k.val : Int) + 1) < 10 ∧ (k.val : Int) + 1 ≠ 50 ∧ (k.val : Int) + 1 ≠ 51 := by decide
theorem cls_7 : ∀ k : Fin 75, clL.getD k.val 99 = 7 → wrB ((k.val : Int) + 1) = true ∧ firB ((k.val : Int) + 1) = true ∧ secB ((k.val : Int) + 1) = true ∧ fmV ((k.val : Int) + 1) = 0 ∧ shV ((k.val : Int) + 1) = 0 ∧ srt ((k.val : Int) + 1) < 10 ∧ (k.val : Int) + 1 ≠ 50 ∧ (k.val : Int) + 1 ≠ 51 := by decide
theorem cls_8 : ∀ k : Fin 75, clL.getD k.val 99 = 8 → wrB ((k.val : Int) + 1) = false ∧ firB ((k.val : Int) + 1) = false ∧ secB ((k.val : Int) + 1) = false ∧ fmV ((k.val : Int) + 1) = 0 ∧ shV ((k.val : Int) + 1) = 0 ∧ srt ((k.val : Int) + 1) < 10 ∧ (k.val : Int) + 1 = 50 ∧ (k.val : Int) + 1 ≠ 51 := by decide
theorem cls_9 : ∀ k : Fin 75, clL.getD k.val 99 = 9 → wrB ((k.val : Int) + 1) = false ∧ firB ((k.val : Int) + 1) = false ∧ secB ((k.val : Int) + 1) = false ∧ fmV ((k.val : Int) + 1) = 0 ∧ shV ((k.val : Int) + 1) = 0 ∧ srt ((k.val : Int) + 1) < 10 ∧ (k.val : Int) + 1 ≠ 50 ∧ (k.val : Int) + 1 = 51 := by decide
theorem cls_10 : ∀ k : Fin 75, clL.getD k.val 99 = 10 → wrB ((k.val : Int) + 1) = false ∧ firB ((k.val : Int) + 1) = false ∧ secB ((k.val : Int) + 1) = false ∧ fmV ((k.val : Int) + 1) = 0 ∧ shV ((k.val : Int) + 1) = 0 ∧ srt ((k.val : Int) + 1) < 10 ∧ (k.val : Int) + 1 ≠ 50 ∧ (k.val : Int) + 1 ≠ 51 := by decide
theorem cls_11 : ∀ k : Fin 75, clL.getD k.val 99 = 11 → wrB ((k.val : Int) + 1) = true ∧ firB ((k.val : Int) + 1) = true ∧ secB ((k.val : Int) + 1) = false ∧ fmV ((k.val : Int) + 1) = 0 ∧ shV ((k.val : Int) + 1) = 0 ∧ 10 ≤ srt ((k.val : Int) + 1) ∧ (k.val : Int) + 1 ≠ 50 ∧ (k.val : Int) + 1 ≠ 51 := by decide
theorem cls_12 : ∀ k : Fin 75, clL.getD k.val 99 = 12 → wrB ((k.val : Int) + 1) = true ∧ firB ((k.val : Int) + 1) = true ∧ secB ((k.val : Int) + 1) = true ∧ fmV ((k.val : Int) + 1) = 0 ∧ shV ((k.val : Int) + 1) = 0 ∧ 10 ≤ srt ((k.val : Int) + 1) ∧ (k.val : Int) + 1 ≠ 50 ∧ (k.val : Int) + 1 ≠ 51 := by decide
theorem cls_all : ∀ k : Fin 75, clL.getD k.val 99 < 13 := by decide
theorem classes {op : Int} (h : 1 ≤ op ∧ op ≤ 75) :
    (wrB op = true ∧ firB op = false ∧ secB op = false ∧ fmV op = 4 ∧ shV op = 0 ∧ srt op < 10 ∧ op ≠ 50 ∧ op ≠ 51) ∨
    (wrB op = true ∧ firB op = false ∧ secB op = false ∧ fmV op = 5 ∧ shV op = 0 ∧ srt op < 10 ∧ op ≠ 50 ∧ op ≠ 51) ∨
    (wrB op = true ∧ firB op = true ∧ secB op = false ∧ fmV op = 1 ∧ shV op = 0 ∧ srt op < 10 ∧ op ≠ 50 ∧ op ≠ 51) ∨
    (wrB op = false ∧ firB op = true ∧ secB op = true ∧ fmV op = 3 ∧ shV op = 0 ∧ srt op < 10 ∧ op ≠ 50 ∧ op ≠ 51) ∨
    (wrB op = false ∧ firB op = true ∧ secB op = true ∧ fmV op = 2 ∧ shV op = 0 ∧ srt op < 10 ∧ op ≠ 50 ∧ op ≠ 51) ∨
    (wrB op = true ∧ firB op = true ∧ secB op = false ∧ fmV op = 0 ∧ shV op = 6 ∧ srt op < 10 ∧ op ≠ 50 ∧ op ≠ 51) ∨
    (wrB op = true ∧ firB op = true ∧ secB op = false ∧ fmV op = 0 ∧ shV op = 5 ∧ srt op < 10 ∧ op ≠ 50 ∧ op ≠ 51) ∨
    (wrB op = true ∧ firB op = true ∧ secB op = true ∧ fmV op = 0 ∧ shV op = 0 ∧ srt op < 10 ∧ op ≠ 50 ∧ op ≠ 51) ∨
    (wrB op = false ∧ firB op = false ∧ secB op = false ∧ fmV op = 0 ∧ shV op = 0 ∧ srt op < 10 ∧ op = 50 ∧ op ≠ 51) ∨
    (wrB op = false ∧ firB op = false ∧ secB op = false ∧ fmV op = 0 ∧ shV op = 0 ∧ srt op < 10 ∧ op ≠ 50 ∧ op = 51) ∨
    (wrB op = false ∧ firB op = false ∧ secB op = false ∧ fmV op = 0 ∧ shV op = 0 ∧ srt op < 10 ∧ op ≠ 50 ∧ op ≠ 51) ∨
    (wrB op = true ∧ firB op = true ∧ secB op = false ∧ fmV op = 0 ∧ shV op = 0 ∧ 10 ≤ srt op ∧ op ≠ 50 ∧ op ≠ 51) ∨
    (wrB op = true ∧ firB op = true ∧ secB op = true ∧ fmV op = 0 ∧ shV op = 0 ∧ 10 ≤ srt op ∧ op ≠ 50 ∧ op ≠ 51) := by
  obtain ⟨k, hk, rfl⟩ : ∃ k : Nat, k < 75 ∧ op = (k : Int) + 1 := ⟨op.toNat - 1, by omega, by omega⟩
  have hc := cls_all ⟨k, hk⟩
  have hd : clL.getD k 99 = 0 ∨ clL.getD k 99 = 1 ∨ clL.getD k 99 = 2 ∨ clL.getD k 99 = 3 ∨ clL.getD k 99 = 4 ∨ clL.getD k 99 = 5 ∨ clL.getD k 99 = 6 ∨ clL.getD k 99 = 7 ∨ clL.getD k 99 = 8 ∨ clL.getD k 99 = 9 ∨ clL.getD k 99 = 10 ∨ clL.getD k 99 = 11 ∨ clL.getD k 99 = 12 := by
    have : clL.getD k 99 < 13 := hc
    omega
  rcases hd with h | h | h | h | h | h | h | h | h | h | h | h | h
  · exact .inl (cls_0 ⟨k, hk⟩ h)
  · exact .inr (.inl (cls_1 ⟨k, hk⟩ h))
  · exact .inr (.inr (.inl (cls_2 ⟨k, hk⟩ h)))
  · exact .inr (.inr (.inr (.inl (cls_3 ⟨k, hk⟩ h))))
  · exact .inr (.inr (.inr (.inr (.inl (cls_4 ⟨k, hk⟩ h)))))
  · exact .inr (.inr (.inr (.inr (.inr (.inl (cls_5 ⟨k, hk⟩ h))))))
  · exact .inr (.inr (.inr (.inr (.inr (.inr (.inl (cls_6 ⟨k, hk⟩ h)))))))
  · exact .inr (.inr (.inr (.inr (.inr (.inr (.inr (.inl (cls_7 ⟨k, hk⟩ h))))))))
  · exact .inr (.inr (.inr (.inr (.inr (.inr (.inr (.inr (.inl (cls_8 ⟨k, hk⟩ h)))))))))
  · exact .inr (.inr (.inr (.inr (.inr (.inr (.inr (.inr (.inr (.inl (cls_9 ⟨k, hk⟩ h))))))))))
  · exact .inr (.inr (.inr (.inr (.inr (.inr (.inr (.inr (.inr (.inr (.inl (cls_10 ⟨k, hk⟩ h)))))))))))
  · exact .inr (.inr (.inr (.inr (.inr (.inr (.inr (.inr (.inr (.inr (.inr (.inl (cls_11 ⟨k, hk⟩ h))))))))))))
  · exact .inr (.inr (.inr (.inr (.inr (.inr (.inr (.inr (.inr (.inr (.inr (.inr ((cls_12 ⟨k, hk⟩ h)))))))))))))

/-- An operation's instruction of a word. -/
def insOf (v op : Int) : Ins where
  op := op
  rd := if wrB op then v / 128 % 32 else 0
  rs1 := if firB op then v / 32768 % 32 else 0
  rs2 := if secB op then v / 1048576 % 32 else 0
  imm := if 0 < fmV op then getK (fmV op) v 32 else if shV op = 6 then v / 1048576 % 64 else if shV op = 5 then v / 1048576 % 32 else 0
  aq := decide (10 ≤ srt op) && decide (v / 67108864 % 2 = 1)
  rl := decide (10 ≤ srt op) && decide (v / 33554432 % 2 = 1)
  pred := if op = 50 then v / 16777216 % 16 else if op = 51 then 3 else 0
  succ := if op = 50 then v / 1048576 % 16 else if op = 51 then 3 else 0
def noIns : Ins := ⟨0, 0, 0, 0, 0, false, false, 0, 0⟩
/-- The operation of a word, of the first k; 0: none. -/
def opK (v : Int) : Nat → Int
  | 0 => 0
  | k + 1 => if opK v k = 0 then (if iswB v ((k : Int) + 1) then (k : Int) + 1 else 0) else opK v k
def opW (v : Int) : Int := opK v 75
def decI (v : Int) : Ins := if opW v = 0 then noIns else insOf v (opW v)
def decB (v : Int) : Bool := !decide (opW v = 0)
theorem opK_keep {v : Int} {k : Nat} (h : opK v k ≠ 0) : ∀ n, opK v (k + n) = opK v k
  | 0 => rfl
  | n + 1 => by
    show (if opK v (k + n) = 0 then _ else opK v (k + n)) = _
    rw [opK_keep h n, if_neg h]
theorem opW_yes {v : Int} {k : Nat} (hk : k < 75) (h0 : opK v k = 0) (h : iswB v ((k : Int) + 1) = true) : opW v = (k : Int) + 1 := by
  have e : opK v (k + 1) = (k : Int) + 1 := by
    show (if opK v k = 0 then (if iswB v ((k : Int) + 1) then (k : Int) + 1 else 0) else opK v k) = _
    rw [if_pos h0, if_pos h]
  have := opK_keep (v := v) (k := k + 1) (by omega) (75 - (k + 1))
  rw [show k + 1 + (75 - (k + 1)) = 75 by omega] at this
  unfold opW
  omega
theorem opK_no {v : Int} {k : Nat} (h0 : opK v k = 0) (h : iswB v ((k : Int) + 1) = false) : opK v (k + 1) = 0 := by
  show (if opK v k = 0 then (if iswB v ((k : Int) + 1) then (k : Int) + 1 else 0) else opK v k) = _
  rw [if_pos h0, h]
  rfl
end Go.Proofs.YtbnacdhhacafkaaDoor
