/- What words are whose: plain tables of layer 6. Nothing here speaks of a program. -/
import Derived.WalkKit
namespace Go.Proofs.YtbnacdhhacafkaaDoor
open Go.RowKit

def ocL : List Int := [55, 23, 111, 103, 99, 99, 99, 99, 99, 99, 3, 3, 3, 3, 3, 3, 3, 35, 35, 35, 35, 19, 19, 19, 19, 19, 19, 19, 19, 19, 27, 27, 27, 27, 51, 51, 51, 51, 51, 51, 51, 51, 51, 51, 59, 59, 59, 59, 59, 15, 15, 115, 115, 47, 47, 47, 47, 47, 47, 47, 47, 47, 47, 47, 47, 47, 47, 47, 47, 47, 47, 47, 47, 47, 47]
def f3L : List Int := [0, 0, 0, 0, 0, 1, 4, 5, 6, 7, 0, 1, 2, 3, 4, 5, 6, 0, 1, 2, 3, 0, 2, 3, 4, 6, 7, 1, 5, 5, 0, 1, 5, 5, 0, 0, 1, 2, 3, 4, 5, 5, 6, 7, 0, 0, 1, 5, 5, 0, 0, 0, 0, 2, 3, 2, 3, 2, 2, 2, 2, 2, 2, 2, 2, 2, 3, 3, 3, 3, 3, 3, 3, 3, 3]
def turL : List Bool := [false, false, false, false, false, false, false, false, false, false, false, false, false, false, false, false, false, false, false, false, false, false, false, false, false, false, false, false, false, true, false, false, false, true, false, true, false, false, false, false, false, true, false, false, false, true, false, false, true, false, false, false, false, false, false, false, false, false, false, false, false, false, false, false, false, false, false, false, false, false, false, false, false, false, false]
def shL : List Int := [0, 0, 0, 0, 0, 0, 0, 0, 0, 0, 0, 0, 0, 0, 0, 0, 0, 0, 0, 0, 0, 0, 0, 0, 0, 0, 0, 6, 6, 6, 0, 5, 5, 5, 0, 0, 0, 0, 0, 0, 0, 0, 0, 0, 0, 0, 0, 0, 0, 0, 0, 0, 0, 0, 0, 0, 0, 0, 0, 0, 0, 0, 0, 0, 0, 0, 0, 0, 0, 0, 0, 0, 0, 0, 0]
def fmL : List Int := [4, 4, 5, 1, 3, 3, 3, 3, 3, 3, 1, 1, 1, 1, 1, 1, 1, 2, 2, 2, 2, 1, 1, 1, 1, 1, 1, 0, 0, 0, 1, 0, 0, 0, 0, 0, 0, 0, 0, 0, 0, 0, 0, 0, 0, 0, 0, 0, 0, 0, 0, 0, 0, 0, 0, 0, 0, 0, 0, 0, 0, 0, 0, 0, 0, 0, 0, 0, 0, 0, 0, 0, 0, 0, 0]
/-- Of which kind an operation's words are: 0 by the opcode alone, 1 by f3, 2 by f7 too, 3 by bits 31 to 26, 4 LR, 5 by bits 31 to 27, 6 FENCE, 7 TSO, 8 ECALL, 9 EBREAK. -/
def kdL : List Int := [0, 0, 0, 1, 1, 1, 1, 1, 1, 1, 1, 1, 1, 1, 1, 1, 1, 1, 1, 1, 1, 1, 1, 1, 1, 1, 1, 3, 3, 3, 1, 2, 2, 2, 2, 2, 2, 2, 2, 2, 2, 2, 2, 2, 2, 2, 2, 2, 2, 6, 7, 8, 9, 4, 4, 5, 5, 5, 5, 5, 5, 5, 5, 5, 5, 5, 5, 5, 5, 5, 5, 5, 5, 5, 5]
def agL : List Int := [0, 0, 0, 0, 0, 0, 0, 0, 0, 0, 0, 0, 0, 0, 0, 0, 0, 0, 0, 0, 0, 0, 0, 0, 0, 0, 0, 0, 0, 16, 0, 0, 0, 32, 0, 32, 0, 0, 0, 0, 0, 32, 0, 0, 0, 32, 0, 0, 32, 0, 0, 0, 0, 2, 2, 3, 3, 1, 0, 4, 12, 8, 16, 20, 24, 28, 1, 0, 4, 12, 8, 16, 20, 24, 28]
def tabI (l : List Int) (op : Int) : Int := if 1 ≤ op ∧ op ≤ 75 then l.getD (op.toNat - 1) 0 else 0
def ocV (op : Int) : Int := tabI ocL op
def f3V (op : Int) : Int := tabI f3L op
def shV (op : Int) : Int := tabI shL op
def fmV (op : Int) : Int := tabI fmL op
def kdV (op : Int) : Int := tabI kdL op
def agV (op : Int) : Int := tabI agL op
def turB (op : Int) : Bool := if 1 ≤ op ∧ op ≤ 75 then turL.getD (op.toNat - 1) false else false
/-- Is a word one of an operation? -/
def Isw (w op : Int) : Prop :=
  w % 128 = ocV op ∧
  (kdV op = 0 ∨ (kdV op = 1 ∧ w / 4096 % 8 = f3V op) ∨ (kdV op = 2 ∧ w / 4096 % 8 = f3V op ∧ w / 33554432 = agV op) ∨ (kdV op = 3 ∧ w / 4096 % 8 = f3V op ∧ w / 33554432 / 2 = agV op) ∨
    (kdV op = 4 ∧ w / 4096 % 8 = f3V op ∧ w / 134217728 = 2 ∧ w / 1048576 % 32 = 0) ∨ (kdV op = 5 ∧ w / 4096 % 8 = f3V op ∧ w / 134217728 = agV op) ∨
    (kdV op = 6 ∧ w / 4096 % 8 = 0 ∧ w / 1048576 ≠ 2099) ∨ (kdV op = 7 ∧ w / 4096 % 8 = 0 ∧ w / 1048576 = 2099) ∨ (kdV op = 8 ∧ w = 115) ∨ (kdV op = 9 ∧ w = 1048691))
instance (w op : Int) : Decidable (Isw w op) := by unfold Isw; infer_instance
def iswB (w op : Int) : Bool := decide (Isw w op)
end Go.Proofs.YtbnacdhhacafkaaDoor
