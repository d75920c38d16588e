/- Of stage 11. -/
import Derived.Test.YtmamblgpekafbaaGreatDoorDgpa
set_option maxRecDepth 100000
namespace Go.Proofs.YtmamblgpekafbaaGreatDoor
open Go.RowKit
def retO (o : Option Int) : Value := .tuple #[.int .i64 (o.getD 0), .bool o.isSome]
def numN (d : List UInt8) : Option Int := if DigT d ∧ d.length ≤ 19 ∧ d.head? ≠ some 48 ∧ valD d ≤ 9223372036854775808 then some (-(valD d : Int)) else none
def numP (d : List UInt8) : Option Int := if DigT d ∧ d.length ≤ 19 ∧ valD d < 9223372036854775808 then some (valD d : Int) else none
def numX (neg : Bool) (d : List UInt8) : Option Int := if neg then numN d else numP d
theorem zF3 {neg : Bool} {d : List UInt8} (h : ¬ DigT d) : numX neg d = none := by
  cases neg
  · show numP d = none
    unfold numP
    rw [if_neg (fun h' => h h'.1)]
  · show numN d = none
    unfold numN
    rw [if_neg (fun h' => h h'.1)]
theorem zy1 {d : List UInt8} (h : d.head? = some 48) : numX true d = none := by
  show numN d = none
  unfold numN
  rw [if_neg (fun h' => h'.2.2.1 h)]
theorem Zj3 {neg : Bool} {d : List UInt8} (hT : DigT d) (hl : d.length ≤ 19) (h48 : neg = true → d.head? ≠ some 48) :
    numX neg d = if 9223372036854775808 < valD d ∨ (valD d = 9223372036854775808 ∧ neg = false) then none else if neg then some (-(valD d : Int)) else some (valD d : Int) := by
  cases neg
  · show numP d = _
    unfold numP
    by_cases h : valD d < 9223372036854775808
    · rw [if_pos ⟨hT, hl, h⟩, if_neg (by simp; omega)]; rfl
    · rw [if_neg (fun h' => h h'.2.2), if_pos (by simp; omega)]
  · show numN d = _
    unfold numN
    by_cases h : valD d ≤ 9223372036854775808
    · rw [if_pos ⟨hT, hl, h48 rfl, h⟩, if_neg (by simp; omega)]; rfl
    · rw [if_neg (fun h' => h h'.2.2.2), if_pos (by simp; omega)]
end Go.Proofs.YtmamblgpekafbaaGreatDoor
namespace Go.Proofs.YtmamblgpekafbaaGreatDoor
open Go.RowKit
end Go.Proofs.YtmamblgpekafbaaGreatDoor
