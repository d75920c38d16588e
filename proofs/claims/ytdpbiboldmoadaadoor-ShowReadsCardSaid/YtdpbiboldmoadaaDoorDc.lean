/- The contract of the document's Decode. -/
import Derived.Test.YtdpbiboldmoadaaDoorRows
import Derived.Test.YtdpbiboldmoadaaDoorDq
import Derived.Test.YtdpbiboldmoadaaDoorIs
import Derived.Test.YtdpbiboldmoadaaDoorFm
import Derived.Test.YtdpbiboldmoadaaDoorRp
import Derived.Test.YtdpbiboldmoadaaDoorBa
import Derived.Test.YtdpbiboldmoadaaDoorJn
import Derived.WalkKit
import Derived.WalkLawsBesides
import Derived.Deep.QuietTactic
import Derived.BigQuiet
import Derived.WalkSmall
import Derived.WalkSpells
import Derived.Lib.Hide
import Derived.Below
import Derived.Outline
import Derived.LoopTactic
import Derived.Deep.LoopGhost
import Derived.Deep.Cut
set_option maxRecDepth 100000
namespace Go.Proofs.YtdpbiboldmoadaaDoor
open Go.RowKit

theorem Jn.as {W0 w : World} {i i' : Ins} {g : Nat} (e : i' = i) (h : Jn W0 i g w) : Jn W0 i' g w := by rw [e]; exact h
theorem insOf_by (v : Int) {op : Int} (wr fi se hi b50 b51 : Bool) (fm sh : Int) (k1 : wrB op = wr) (k2 : firB op = fi) (k3 : secB op = se) (k4 : fmV op = fm) (k5 : shV op = sh) (k6 : decide (10 ≤ srt op) = hi) (k7 : (op == 50) = b50) (k8 : (op == 51) = b51) :
    insOf v op = ⟨op, if wr then v / 128 % 32 else 0, if fi then v / 32768 % 32 else 0, if se then v / 1048576 % 32 else 0, if 0 < fm then getK fm v 32 else if sh = 6 then v / 1048576 % 64 else if sh = 5 then v / 1048576 % 32 else 0,
      hi && decide (v / 67108864 % 2 = 1), hi && decide (v / 33554432 % 2 = 1), if b50 then v / 16777216 % 16 else if b51 then 3 else 0, if b50 then v / 1048576 % 16 else if b51 then 3 else 0⟩ := by
  subst k1 k2 k3 k4 k5 k6 k7 k8
  unfold insOf
  simp only [beq_iff_eq]
end Go.Proofs.YtdpbiboldmoadaaDoor
