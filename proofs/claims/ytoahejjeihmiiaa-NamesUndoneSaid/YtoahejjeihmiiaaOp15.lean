/- Stage 15's laws, as the claims ask them. -/
import Derived.Test.YtoahejjeihmiiaaNb
import Derived.Test.YtoahejjeihmiiaaNo
set_option maxRecDepth 100000
set_option linter.unusedVariables false
namespace Go.Proofs.Ytoahejjeihmiiaa
open Go.RowKit

theorem u8_le {l : List Int} (h : ∀ z ∈ l, (Lit.int .u8 z).wf = true) : ∀ z ∈ l, 0 ≤ z ∧ z ≤ 255 := fun z hz => by
  have := wf_u8_out (h z hz)
  omega
theorem namesPlays_law (x0 : Nat → Int) (a1 : Option Addr) (c1 : Nat) (l1 : List Nac) (W : World) (m1 : l1.length ≤ c1) (b1 : c1 ≤ 9223372036854775807) (_ : a1 = none → c1 = 0 ∧ l1 = []) (_ : Wnacs l1) (r1 : Rd W W.heap.size a1 (cellsNac l1)) :
    Calls Try.prog 3 #[.agg (xCells x0), .slice a1 l1.length c1] W fun e w' => e = .returned (.bool true) ∧ Below W.heap.size W w' :=
  plays15_walk x0 a1 c1 l1 W (by omega) r1
theorem namesNone_law (i0 : Nac) (W : World) (_ : Wnac i0) :
    Calls Try.prog 4 #[.agg (nacCells i0)] W fun e w' => e = .returned (.bool true) ∧ Below W.heap.size W w' :=
  none15_walk i0.kind i0.n i0.v W
theorem namesUndone_law (x0 : Nat → Int) (a1 : Option Addr) (c1 : Nat) (l1 : List Nac) (a2 : Option Addr) (c2 : Nat) (l2 : List Int) (W : World) (m1 : l1.length ≤ c1) (b1 : c1 ≤ 9223372036854775807) (_ : a1 = none → c1 = 0 ∧ l1 = []) (_ : Wnacs l1) (r1 : Rd W W.heap.size a1 (cellsNac l1))
    (m2 : l2.length ≤ c2) (b2 : c2 ≤ 9223372036854775807) (_ : a2 = none → c2 = 0 ∧ l2 = []) (w2 : ∀ z ∈ l2, (Lit.int .u8 z).wf = true) (r2 : Rd W W.heap.size a2 (l2.map (Value.int .u8))) :
    Calls Try.prog 5 #[.agg (xCells x0), .slice a1 l1.length c1, .slice a2 l2.length c2] W fun e w' => e = .returned (.bool true) ∧ Below W.heap.size W w' :=
  undone15_walk x0 a1 c1 l1 a2 c2 l2 W (by omega) (by omega) (u8_le w2) r1 r2
theorem namesLast_law (x0 : Nat → Int) (a1 : Option Addr) (c1 : Nat) (l1 : List Int) (a2 : Option Addr) (c2 : Nat) (l2 : List Int) (W : World) (m1 : l1.length ≤ c1) (b1 : c1 ≤ 9223372036854775807) (_ : a1 = none → c1 = 0 ∧ l1 = []) (w1 : ∀ z ∈ l1, (Lit.int .u8 z).wf = true) (r1 : Rd W W.heap.size a1 (l1.map (Value.int .u8)))
    (m2 : l2.length ≤ c2) (b2 : c2 ≤ 9223372036854775807) (_ : a2 = none → c2 = 0 ∧ l2 = []) (_ : ∀ z ∈ l2, (Lit.int .u64 z).wf = true) (r2 : Rd W W.heap.size a2 (l2.map (Value.int .u64))) :
    Calls Try.prog 6 #[.agg (xCells x0), .slice a1 l1.length c1, .slice a2 l2.length c2] W fun e w' => e = .returned (.bool true) ∧ Below W.heap.size W w' :=
  last15_walk x0 a1 c1 l1 a2 c2 l2 W (by omega) (by omega) (u8_le w1) r1 r2
end Go.Proofs.Ytoahejjeihmiiaa
