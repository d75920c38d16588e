/- Layer 14: what went that came in; the table that the rows list; the laws as the claims ask them. -/
import Derived.Test.YtdcmpmmbmjaaiaaDoorGl
import Derived.Test.YtdcmpmmbmjaaiaaDoorOg
import Derived.Test.YtdcmpmmbmjaaiaaDoorTi
import Derived.WalkKit
import Derived.ProofKit
import Derived.OpenShut
import Derived.Laws.Cover2
set_option maxRecDepth 100000
namespace Go.Proofs.YtdcmpmmbmjaaiaaDoor
open Go.ChangeShapes Go.WideShapes Go.ChangeAt Go.RowKit Go.Deep

section
variable {H : Type} {enc : TypeId × Value → H} {w : World} {spare : Nat → Bool} {held : Bool}
theorem wn_cells {base fuel : Nat} {cs : List Value} {x : DataW H × List MemPlace} (h : DataW.trod enc Tryd.prog w base spare held fuel 31 cs = some x) : ∃ k : Wn, cs = (wnCells k).toList ∧ Wwn k := by
  obtain ⟨xs, n, _, _, hl, hx, hf⟩ := DataW.trod_struct Tryd.underlying31 h
  rw [show Tryd.prog.cellsOf 31 = 11 by kernel_rfl] at hl
  match cs, hl with
  | [v0, v1, v2, v3, v4, v5, v6, v7, v8, v9, v10], _ =>
    have hx3 : xs.length = 3 := hx
    have g0 : DataW.trod enc Tryd.prog w base spare held n 24 (([v0, v1, v2, v3, v4, v5, v6, v7, v8, v9, v10].drop 0).take (Tryd.prog.cellsOf 24)) = xs[0]? := hf 0 _ rfl
    have g1 : DataW.trod enc Tryd.prog w base spare held n 25 (([v0, v1, v2, v3, v4, v5, v6, v7, v8, v9, v10].drop 9).take (Tryd.prog.cellsOf 25)) = xs[1]? := hf 1 _ rfl
    have g2 : DataW.trod enc Tryd.prog w base spare held n 25 (([v0, v1, v2, v3, v4, v5, v6, v7, v8, v9, v10].drop 10).take (Tryd.prog.cellsOf 25)) = xs[2]? := hf 2 _ rfl
    rw [show Tryd.prog.cellsOf 24 = 9 by kernel_rfl] at g0
    rw [show Tryd.prog.cellsOf 25 = 1 by kernel_rfl] at g1 g2
    match xs, hx3 with
    | [y0, y1, y2], _ =>
      obtain ⟨i, e0, w0⟩ := inst_cells (x := y0) g0
      obtain ⟨a1, e1, _, w1⟩ := DataW.trod_int Tryd.underlying25 (x := y1) g1
      obtain ⟨a2, e2, _, w2⟩ := DataW.trod_int Tryd.underlying25 (x := y2) g2
      simp [insCells] at e0 e1 e2
      obtain ⟨f0, f1, f2, f3, f4, f5, f6, f7, f8⟩ := e0
      subst f0 f1 f2 f3 f4 f5 f6 f7 f8 e1 e2
      have hu := wf_u64_out w1
      exact ⟨⟨i, a1, a2⟩, rfl, w0, hu.1, by have h2 := hu.2; show a1 ≤ _; omega⟩
theorem slice_wns {A : Option Addr} {len cap : Nat} {x : DataW H × List MemPlace} (h : ∃ fuel, DataW.trod enc Tryd.prog w 0 spare held fuel 22 (Value.slice A len cap).cells.toList = some x) :
    ∃ l : List Wn, len = l.length ∧ l.length ≤ cap ∧ cap ≤ 9223372036854775807 ∧ (A = none → cap = 0 ∧ l = []) ∧ Wwns l ∧ Rd w w.heap.size A (cellsWn l) :=
  slice_any (z := 11) (fun x => (wnCells x).toList) Wwn (fun _ => rfl) (by decide) Tryd.underlying22 (by kernel_rfl) (fun _ _ _ h => wn_cells h) h
end
theorem tab14_laid {W : World} (hL : laidMetH Tryd.prog Rows.guessPlaysRow.laid W) : TabL W := by
  have hp : (Rows.guessPlaysRow.laid.all fun x => x.2.handleName?.isNone) = true := by kernel_rfl
  have h0 := flat_blk (d := Rows.laid_undertow_ops_lasts) (g := 0) (t := 56) 8 hL (List.mem_of_getElem? (i := 0) rfl) hp (by kernel_rfl) (by kernel_rfl) (by kernel_rfl)
  have e0 : flatD 8 Rows.laid_undertow_ops_lasts = lsL.map (Value.int .i64) := by kernel_rfl
  rw [e0] at h0
  exact h0
theorem u64_le {a : Int} (h : (Lit.int .u64 a).wf = true) : 0 ≤ a ∧ a ≤ 18446744073709551615 := by
  have := wf_u64_out h
  exact ⟨this.1, by have := this.2; omega⟩
theorem guessPlays_law (a0 : Option Addr) (c0 : Nat) (l0 : List Wn) (i1 : Ins) (a2 : Int) (W : World) (hL : laidMetH Tryd.prog Rows.guessPlaysRow.laid W) (m0 : l0.length ≤ c0) (b0 : c0 ≤ 9223372036854775807) (_ : a0 = none → c0 = 0 ∧ l0 = []) (w0 : Wwns l0) (r0 : Rd W W.heap.size a0 (cellsWn l0)) (w1 : I64 i1.op) (w2 : (Lit.int .u64 a2).wf = true) :
    Calls Tryd.prog 3 #[.slice a0 l0.length c0, insV i1, .int .u64 a2] W fun e w' => e = .returned (.bool true) ∧ Below W.heap.size W w' :=
  plays14_walk a0 c0 l0 i1 a2 W m0 b0 w0 w1 (u64_le w2) r0 (tab14_laid hL)
theorem guessTwice_law (a0 : Option Addr) (c0 : Nat) (l0 : List Wn) (a1 a2 a3 : Int) (a4 : Bool) (W : World) (hL : laidMetH Tryd.prog Rows.guessTwiceRow.laid W) (m0 : l0.length ≤ c0) (b0 : c0 ≤ 9223372036854775807) (_ : a0 = none → c0 = 0 ∧ l0 = []) (w0 : Wwns l0) (r0 : Rd W W.heap.size a0 (cellsWn l0)) (_ : (Lit.int .i64 a1).wf = true) (w2 : (Lit.int .u64 a2).wf = true) (w3 : (Lit.int .u64 a3).wf = true) :
    Calls Tryd.prog 4 #[.slice a0 l0.length c0, .int .i64 a1, .int .u64 a2, .int .u64 a3, .bool a4] W fun e w' => e = .returned (.bool true) ∧ Below W.heap.size W w' :=
  twice_walk a0 c0 l0 a1 a2 a3 a4 W (by omega) w0 (u64_le w2) (u64_le w3) r0 (tab14_laid hL)
end Go.Proofs.YtdcmpmmbmjaaiaaDoor
