/- An instruction's text, a text's words, and what is told of them: plain. Nothing here speaks of a program. -/
import Derived.Test.YtolmecnjolfjgaaGreatDoorDgl
import Derived.Test.YtolmecnjolfjgaaGreatDoorRgl
set_option maxRecDepth 100000
namespace Go.Proofs.YtolmecnjolfjgaaGreatDoor
open Go.RowKit

def annT (aq rl : Bool) : List UInt8 := (if aq || rl then [46] else []) ++ (if aq then [97, 113] else []) ++ (if rl then [114, 108] else [])
def cmS : List UInt8 := [44, 32]
def tailT (i : Ins) : List UInt8 :=
  if srt i.op = 1 ∨ i.op = 3 then [32] ++ regT i.rd ++ cmS ++ digI i.imm
  else if srt i.op = 2 ∨ srt i.op = 6 then [32] ++ regT i.rd ++ cmS ++ regT i.rs1 ++ cmS ++ digI i.imm
  else if srt i.op = 3 then [32] ++ regT i.rs1 ++ cmS ++ regT i.rs2 ++ cmS ++ digI i.imm
  else if srt i.op = 4 then [32] ++ regT i.rd ++ cmS ++ digI i.imm ++ [40] ++ regT i.rs1 ++ [41]
  else if srt i.op = 5 then [32] ++ regT i.rs2 ++ cmS ++ digI i.imm ++ [40] ++ regT i.rs1 ++ [41]
  else if srt i.op = 7 then [32] ++ regT i.rd ++ cmS ++ regT i.rs1 ++ cmS ++ regT i.rs2
  else if i.op = 50 then [32] ++ setT i.pred ++ cmS ++ setT i.succ
  else if srt i.op = 10 then [32] ++ regT i.rd ++ [44, 32, 40] ++ regT i.rs1 ++ [41]
  else if 10 < srt i.op then [32] ++ regT i.rd ++ cmS ++ regT i.rs2 ++ [44, 32, 40] ++ regT i.rs1 ++ [41]
  else []
def textT (i : Ins) : List UInt8 := nmO i.op ++ annT i.aq i.rl ++ tailT i

def isW (c : UInt8) : Bool := decide ((97 ≤ c.toNat ∧ c.toNat ≤ 122) ∨ (48 ≤ c.toNat ∧ c.toNat ≤ 57) ∨ c = 46 ∨ c = 45)
def AllW (l : List UInt8) : Prop := ∀ c ∈ l, isW c = true
instance (l : List UInt8) : Decidable (AllW l) := by unfold AllW; infer_instance
theorem AllW.app {a b : List UInt8} (ha : AllW a) (hb : AllW b) : AllW (a ++ b) := fun c h => (List.mem_append.1 h).elim (ha c) (hb c)
theorem isW_dig {c : UInt8} (h : isDig c = true) : isW c = true := by
  have := of_decide_eq_true h
  exact decide_eq_true (.inr (.inl this))
theorem allW_digI (n : Int) : AllW (digI n) := by
  intro c hc
  unfold digI at hc
  split at hc
  · rcases List.mem_cons.1 hc with rfl | h
    · decide
    · exact isW_dig (digU_all _ c h)
  · exact isW_dig (digU_all _ c hc)
theorem allW_regT (r : Int) : AllW (regT r) := by
  intro c hc
  rcases List.mem_cons.1 hc with rfl | h
  · decide
  · exact allW_digI r c h
theorem allW_sets : ∀ n : Fin 16, AllW (setT (n.val : Int)) ∧ setT (n.val : Int) ≠ [] := by decide +kernel
theorem allW_set {n : Int} (h : 0 ≤ n ∧ n < 16) : AllW (setT n) ∧ setT n ≠ [] := by
  have := allW_sets ⟨n.toNat, by omega⟩
  rw [show ((n.toNat : Nat) : Int) = n by omega] at this
  exact this
theorem allW_names : ∀ k : Fin 75, (AllW (nmO ((k.val : Int) + 1)) ∧ nmO ((k.val : Int) + 1) ≠ []) := by decide +kernel
theorem allW_head {op : Int} (h : 1 ≤ op ∧ op ≤ 75) (aq rl : Bool) : AllW (nmO op ++ annT aq rl) ∧ nmO op ++ annT aq rl ≠ [] := by
  have := allW_names ⟨op.toNat - 1, by omega⟩
  rw [show ((op.toNat - 1 : Nat) : Int) + 1 = op by omega] at this
  refine ⟨this.1.app ?_, fun e => this.2 (List.append_eq_nil_iff.1 e).1⟩
  cases aq <;> cases rl <;> decide
def baseR (op : Int) (aq rl : Bool) : Ins := ⟨op, 0, 0, 0, 0, aq, rl, if op = 51 then 3 else 0, if op = 51 then 3 else 0⟩
theorem imm_I64 {i : Ins} (h : Rgt i) : I64 i.imm := by
  have hf : 0 ≤ fmV i.op ∧ fmV i.op ≤ 5 ∧ (shV i.op = 0 ∨ shV i.op = 5 ∨ shV i.op = 6) := by
    have hall : ∀ k : Fin 75, 0 ≤ fmV ((k.val : Int) + 1) ∧ fmV ((k.val : Int) + 1) ≤ 5 ∧ (shV ((k.val : Int) + 1) = 0 ∨ shV ((k.val : Int) + 1) = 5 ∨ shV ((k.val : Int) + 1) = 6) := by decide +kernel
    have := hall ⟨i.op.toNat - 1, by have := h.op; omega⟩
    rw [show ((i.op.toNat - 1 : Nat) : Int) + 1 = i.op by have := h.op; omega] at this
    exact this
  unfold I64
  rcases hf.2.2 with e | e | e
  · by_cases e0 : fmV i.op = 0
    · rw [h.non e e0]; decide
    · have := h.may (by omega)
      unfold May at this
      omega
  · have := h.sh5 e; omega
  · have := h.sh6 e; omega
end Go.Proofs.YtolmecnjolfjgaaGreatDoor
