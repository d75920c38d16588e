/- The document's Loaded. The document's Stored. The document's Taken, Next and Address. -/
import Derived.Test.YtolmecnjolfjgaaGreatDoorRows
import Derived.Test.YtolmecnjolfjgaaGreatDoorAru
import Derived.Test.YtolmecnjolfjgaaGreatDoorSyu
import Derived.Test.YtolmecnjolfjgaaGreatDoorOp5u
import Derived.Test.YtolmecnjolfjgaaGreatDoorWxu
import Derived.WalkKit
import Derived.WalkLawsBesides
import Derived.Deep.QuietTactic
import Derived.BigQuiet
import Derived.WalkSmall
import Derived.WalkSpells
import Derived.Lib.Hide
import Derived.Below
import Derived.Test.YtolmecnjolfjgaaGreatDoorOcu
set_option maxRecDepth 100000
namespace Go.Proofs.YtolmecnjolfjgaaGreatDoor
open Go.RowKit

def loaV (op raw : Int) : Int := if srt op = 4 ∨ srt op = 10 ∨ srt op = 12 then (if 15 ≤ op ∧ op ≤ 17 then zx raw (8 * siz op).toNat else sx raw (8 * siz op).toNat) else 0
theorem loaV_u {op raw : Int} (n : Nat) (h : srt op = 4 ∨ srt op = 10 ∨ srt op = 12) (hu : 15 ≤ op ∧ op ≤ 17) (hn : (8 * siz op).toNat = n) : loaV op raw = zx raw n := by unfold loaV; rw [if_pos h, if_pos hu, hn]
theorem loaV_s {op raw : Int} (n : Nat) (h : srt op = 4 ∨ srt op = 10 ∨ srt op = 12) (hu : ¬ (15 ≤ op ∧ op ≤ 17)) (hn : (8 * siz op).toNat = n) : loaV op raw = sx raw n := by unfold loaV; rw [if_pos h, if_neg hu, hn]
end Go.Proofs.YtolmecnjolfjgaaGreatDoor
namespace Go.Proofs.YtolmecnjolfjgaaGreatDoor
open Go.RowKit

/-- What an atomic operation makes of what was there and of b, both with their sign (x, y) and without (u, v). -/
def amoV (j x y u v : Int) : Int :=
  if j = 0 then y else if j = 1 then IntKind.u64.wrap (x + y) else if j = 2 then bits .xor .u64 x y else if j = 3 then bits .and .u64 x y else if j = 4 then bits .or .u64 x y
  else if j = 5 then (if lowB x y then x else y) else if j = 6 then (if lowB y x then x else y) else if j = 7 then (if u < v then u else y) else (if v < u then u else y)
def stoV (op old b : Int) : Int :=
  if srt op = 5 ∨ srt op = 11 then zx b (8 * siz op).toNat else if srt op = 12 then zx (amoV ((op - 58) % 9) (sx old (8 * siz op).toNat) (sx b (8 * siz op).toNat) (zx old (8 * siz op).toNat) (zx b (8 * siz op).toNat)) (8 * siz op).toNat else 0
theorem sto_some {op old b : Int} (h : srt op = 5 ∨ srt op = 11) : stoV op old b = zx b (8 * siz op).toNat := by unfold stoV; rw [if_pos h]
theorem sto_none {op old b : Int} (h : srt op ≠ 5 ∧ srt op ≠ 11 ∧ srt op ≠ 12) : stoV op old b = 0 := by unfold stoV; rw [if_neg (by omega), if_neg (by omega)]
theorem sto_amo {op old b : Int} (h : srt op = 12) : stoV op old b = zx (amoV ((op - 58) % 9) (sx old (8 * siz op).toNat) (sx b (8 * siz op).toNat) (zx old (8 * siz op).toNat) (zx b (8 * siz op).toNat)) (8 * siz op).toNat := by
  unfold stoV; rw [if_neg (by omega), if_pos h]
theorem siz_cap : ∀ k : Fin 75, cap64 (8 * siz ((k.val : Int) + 1)) = (8 * siz ((k.val : Int) + 1)).toNat ∧ 0 ≤ siz ((k.val : Int) + 1) ∧ siz ((k.val : Int) + 1) ≤ 8 := by decide
theorem siz_capx (op : Int) : cap64 (8 * siz op) = (8 * siz op).toNat ∧ 0 ≤ siz op ∧ siz op ≤ 8 := by
  by_cases h : 1 ≤ op ∧ op ≤ 75
  · have := siz_cap ⟨op.toNat - 1, by omega⟩
    simp only [show ((op.toNat - 1 : Nat) : Int) + 1 = op by omega] at this
    exact this
  · have : siz op = 0 := by unfold siz; rw [if_neg h]
    rw [this]; decide
end Go.Proofs.YtolmecnjolfjgaaGreatDoor
namespace Go.Proofs.YtolmecnjolfjgaaGreatDoor
open Go.RowKit

def takV (op a b : Int) : Bool := if op = 5 then a == b else if op = 6 then a != b else if op = 7 then lowB a b else if op = 8 then !lowB a b else if op = 9 then decide (a < b) else if op = 10 then !decide (a < b) else false
section
variable (i : Ins) (a b : Int) (ha : U64 a) (hb : U64 b) (ho : I64 i.op) (w : World)
include ha hb ho
end

def nxtV (op imm pc a b : Int) : Int := if op = 3 ∨ takV op a b = true then u64 (pc + IntKind.u64.wrap imm) else if op = 4 then u64 (a + IntKind.u64.wrap imm) - u64 (a + IntKind.u64.wrap imm) % 2 else u64 (pc + 4)
section
variable (i : Ins) (pc a b : Int) (ha : U64 a) (hb : U64 b) (ho : I64 i.op) (w : World)
include ha hb ho
end

def adrV (op imm a : Int) : Int := if srt op = 4 ∨ srt op = 5 then u64 (a + IntKind.u64.wrap imm) else if 10 ≤ srt op then a else 0
end Go.Proofs.YtolmecnjolfjgaaGreatDoor
