/- An index into an array that was read whole. Of no program. -/
import Derived.Test.YtbnacdhhacafkaaDoorRows
import Derived.WalkKit
import Derived.Laws.Rows
namespace Go.Proofs.YtbnacdhhacafkaaDoor
open Go.RowKit

/-- A type whose values lie in one cell each. -/
def flatK : TypeDesc → Bool
  | .struct _ => false
  | .array _ _ => false
  | _ => true
theorem index_row {P : Program} {t e : TypeId} {n k : Nat} {cs : Array Value} {v : Value} {d : TypeDesc} (h : P.underlying t = some (.array n e)) (hu : P.underlying e = some d) (hd : flatK d = true)
    (hi : (P.info? e).map (·.size) = some 1) (hk : k < n) (hv : cs[k]? = some v) (w : World) : (Instr.index t (.agg cs) (.int .i64 k)).run P w = .ok v w := by
  cases hq : P.info? e with
  | none => simp [hq] at hi
  | some i =>
    have hs : i.size = 1 := by simpa [hq] using hi
    have hagg : (isAgg e).run P w = .ok false w := by
      unfold isAgg
      rw [Sem.run_bind, run_underlying hu w]
      cases d <;> simp_all [flatK]
    have hc : (0 : Int) ≤ (k : Int) ∧ (k : Int) < (n : Int) := by omega
    simp [Instr.index, asIntOf, run_underlying h, hc, part, Sem.run_bind, hagg, sizeOf, typeInfo, hq, hs, hv]
    intro hn; omega
end Go.Proofs.YtbnacdhhacafkaaDoor
