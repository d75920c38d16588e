/- Layer 16: slots that came in; the table that the row lists; the law as the claim asks it. -/
import Derived.Test.YtoaonoflekcccaaDoorXo
import Derived.Test.YtoaonoflekcccaaDoorOg
import Derived.Test.YtoaonoflekcccaaDoorTi
import Derived.WalkKit
import Derived.ProofKit
import Derived.OpenShut
import Derived.Laws.Cover2
set_option maxRecDepth 100000
namespace Go.Proofs.YtoaonoflekcccaaDoor
open Go.ChangeShapes Go.WideShapes Go.ChangeAt Go.RowKit Go.Deep

section
variable {H : Type} {enc : TypeId × Value → H} {w : World} {spare : Nat → Bool} {held : Bool}
theorem tags_cells {base fuel : Nat} {t0 t1 t2 t3 t4 t5 t6 t7 : Value} {x : DataW H × List MemPlace} (h : DataW.trod enc Tryd.prog w base spare held fuel 27 [t0, t1, t2, t3, t4, t5, t6, t7] = some x) :
    ∃ t : Nat → Int, t0 = .int .i64 (t 0) ∧ t1 = .int .i64 (t 1) ∧ t2 = .int .i64 (t 2) ∧ t3 = .int .i64 (t 3) ∧ t4 = .int .i64 (t 4) ∧ t5 = .int .i64 (t 5) ∧ t6 = .int .i64 (t 6) ∧ t7 = .int .i64 (t 7) := by
  obtain ⟨ys, m, _, _, hl, hy, hel⟩ := DataW.trod_array Tryd.underlying27 h
  rw [show Tryd.prog.cellsOf 3 = 1 by kernel_rfl] at hel
  have each : ∀ i, i < 8 → ∃ a, (([t0, t1, t2, t3, t4, t5, t6, t7].drop (i * 1)).take 1) = [Value.int .i64 a] := fun i hi => by
    have h1 := hel i (by omega)
    rw [List.getElem?_eq_getElem (show i < ys.length by omega)] at h1
    obtain ⟨a, e, _, _⟩ := DataW.trod_int Tryd.underlying3 h1
    exact ⟨a, e⟩
  obtain ⟨a0, e0⟩ := each 0 (by decide)
  obtain ⟨a1, e1⟩ := each 1 (by decide)
  obtain ⟨a2, e2⟩ := each 2 (by decide)
  obtain ⟨a3, e3⟩ := each 3 (by decide)
  obtain ⟨a4, e4⟩ := each 4 (by decide)
  obtain ⟨a5, e5⟩ := each 5 (by decide)
  obtain ⟨a6, e6⟩ := each 6 (by decide)
  obtain ⟨a7, e7⟩ := each 7 (by decide)
  simp at e0 e1 e2 e3 e4 e5 e6 e7
  exact ⟨fun k => [a0, a1, a2, a3, a4, a5, a6, a7].getD k 0, e0, e1, e2, e3, e4, e5, e6, e7⟩
theorem slt_cells {base fuel : Nat} {cs : List Value} {x : DataW H × List MemPlace} (h : DataW.trod enc Tryd.prog w base spare held fuel 29 cs = some x) : ∃ k : Slt, cs = (sltC k).toList ∧ Wslt k := by
  obtain ⟨xs, n, _, _, hl, hx, hf⟩ := DataW.trod_struct Tryd.underlying29 h
  rw [show Tryd.prog.cellsOf 29 = 18 by kernel_rfl] at hl
  match cs, hl with
  | [v0, v1, v2, v3, v4, v5, v6, v7, v8, v9, t0, t1, t2, t3, t4, t5, t6, t7], _ =>
    have hx3 : xs.length = 11 := hx
    have g0 : DataW.trod enc Tryd.prog w base spare held n 3 (([v0, v1, v2, v3, v4, v5, v6, v7, v8, v9, t0, t1, t2, t3, t4, t5, t6, t7].drop 0).take (Tryd.prog.cellsOf 3)) = xs[0]? := hf 0 _ rfl
    have g1 : DataW.trod enc Tryd.prog w base spare held n 3 (([v0, v1, v2, v3, v4, v5, v6, v7, v8, v9, t0, t1, t2, t3, t4, t5, t6, t7].drop 1).take (Tryd.prog.cellsOf 3)) = xs[1]? := hf 1 _ rfl
    have g2 : DataW.trod enc Tryd.prog w base spare held n 3 (([v0, v1, v2, v3, v4, v5, v6, v7, v8, v9, t0, t1, t2, t3, t4, t5, t6, t7].drop 2).take (Tryd.prog.cellsOf 3)) = xs[2]? := hf 2 _ rfl
    have g3 : DataW.trod enc Tryd.prog w base spare held n 4 (([v0, v1, v2, v3, v4, v5, v6, v7, v8, v9, t0, t1, t2, t3, t4, t5, t6, t7].drop 3).take (Tryd.prog.cellsOf 4)) = xs[3]? := hf 3 _ rfl
    have g4 : DataW.trod enc Tryd.prog w base spare held n 3 (([v0, v1, v2, v3, v4, v5, v6, v7, v8, v9, t0, t1, t2, t3, t4, t5, t6, t7].drop 4).take (Tryd.prog.cellsOf 3)) = xs[4]? := hf 4 _ rfl
    have g5 : DataW.trod enc Tryd.prog w base spare held n 4 (([v0, v1, v2, v3, v4, v5, v6, v7, v8, v9, t0, t1, t2, t3, t4, t5, t6, t7].drop 5).take (Tryd.prog.cellsOf 4)) = xs[5]? := hf 5 _ rfl
    have g6 : DataW.trod enc Tryd.prog w base spare held n 3 (([v0, v1, v2, v3, v4, v5, v6, v7, v8, v9, t0, t1, t2, t3, t4, t5, t6, t7].drop 6).take (Tryd.prog.cellsOf 3)) = xs[6]? := hf 6 _ rfl
    have g7 : DataW.trod enc Tryd.prog w base spare held n 4 (([v0, v1, v2, v3, v4, v5, v6, v7, v8, v9, t0, t1, t2, t3, t4, t5, t6, t7].drop 7).take (Tryd.prog.cellsOf 4)) = xs[7]? := hf 7 _ rfl
    have g8 : DataW.trod enc Tryd.prog w base spare held n 26 (([v0, v1, v2, v3, v4, v5, v6, v7, v8, v9, t0, t1, t2, t3, t4, t5, t6, t7].drop 8).take (Tryd.prog.cellsOf 26)) = xs[8]? := hf 8 _ rfl
    have g9 : DataW.trod enc Tryd.prog w base spare held n 4 (([v0, v1, v2, v3, v4, v5, v6, v7, v8, v9, t0, t1, t2, t3, t4, t5, t6, t7].drop 9).take (Tryd.prog.cellsOf 4)) = xs[9]? := hf 9 _ rfl
    have g10 : DataW.trod enc Tryd.prog w base spare held n 27 (([v0, v1, v2, v3, v4, v5, v6, v7, v8, v9, t0, t1, t2, t3, t4, t5, t6, t7].drop 10).take (Tryd.prog.cellsOf 27)) = xs[10]? := hf 10 _ rfl
    rw [show Tryd.prog.cellsOf 3 = 1 by kernel_rfl] at g0 g1 g2 g4 g6
    rw [show Tryd.prog.cellsOf 4 = 1 by kernel_rfl] at g3 g5 g7 g9
    rw [show Tryd.prog.cellsOf 26 = 1 by kernel_rfl] at g8
    rw [show Tryd.prog.cellsOf 27 = 8 by kernel_rfl] at g10
    match xs, hx3 with
    | [y0, y1, y2, y3, y4, y5, y6, y7, y8, y9, y10], _ =>
      obtain ⟨a0, e0, _, w0⟩ := DataW.trod_int Tryd.underlying3 (x := y0) g0
      obtain ⟨a1, e1, _, w1⟩ := DataW.trod_int Tryd.underlying3 (x := y1) g1
      obtain ⟨a2, e2, _, w2⟩ := DataW.trod_int Tryd.underlying3 (x := y2) g2
      obtain ⟨a3, e3, _⟩ := DataW.trod_bool Tryd.underlying4 (x := y3) g3
      obtain ⟨a4, e4, _, w4⟩ := DataW.trod_int Tryd.underlying3 (x := y4) g4
      obtain ⟨a5, e5, _⟩ := DataW.trod_bool Tryd.underlying4 (x := y5) g5
      obtain ⟨a6, e6, _, w6⟩ := DataW.trod_int Tryd.underlying3 (x := y6) g6
      obtain ⟨a7, e7, _⟩ := DataW.trod_bool Tryd.underlying4 (x := y7) g7
      obtain ⟨a8, e8, _, w8⟩ := DataW.trod_int Tryd.underlying26 (x := y8) g8
      obtain ⟨a9, e9, _⟩ := DataW.trod_bool Tryd.underlying4 (x := y9) g9
      have g11 : DataW.trod enc Tryd.prog w base spare held n 27 [t0, t1, t2, t3, t4, t5, t6, t7] = some y10 := g10
      obtain ⟨t, f0, f1, f2, f3, f4, f5, f6, f7⟩ := tags_cells g11
      simp at e0 e1 e2 e3 e4 e5 e6 e7 e8 e9
      subst e0 e1 e2 e3 e4 e5 e6 e7 e8 e9 f0 f1 f2 f3 f4 f5 f6 f7
      exact ⟨⟨a0, a1, a2, a3, a4, a5, a6, a7, a8, a9, t⟩, rfl, wf_i64_out w0, wf_i64_out w6⟩
theorem slice_slts {A : Option Addr} {len cap : Nat} {x : DataW H × List MemPlace} (h : ∃ fuel, DataW.trod enc Tryd.prog w 0 spare held fuel 22 (Value.slice A len cap).cells.toList = some x) :
    ∃ l : List Slt, len = l.length ∧ l.length ≤ cap ∧ cap ≤ 9223372036854775807 ∧ (A = none → cap = 0 ∧ l = []) ∧ Wslts l ∧ Rd w w.heap.size A (cellsS l) :=
  slice_any (z := 18) (fun x => (sltC x).toList) Wslt (fun _ => rfl) (by decide) Tryd.underlying22 (by kernel_rfl) (fun _ _ _ h => slt_cells h) h
end
theorem tab16_laid {W : World} (hL : laidMetH Tryd.prog Rows.lsqBehindRow.laid W) : TabL W := by
  have hp : (Rows.lsqBehindRow.laid.all fun x => x.2.handleName?.isNone) = true := by kernel_rfl
  have h0 := flat_blk (d := Rows.laid_undertow_ops_lasts) (g := 0) (t := 50) 8 hL (List.mem_of_getElem? (i := 0) rfl) hp (by kernel_rfl) (by kernel_rfl) (by kernel_rfl)
  have e0 : flatD 8 Rows.laid_undertow_ops_lasts = lsL.map (Value.int .i64) := by kernel_rfl
  rw [e0] at h0
  exact h0
theorem u8_le {a : Int} (h : (Lit.int .u8 a).wf = true) : 0 ≤ a ∧ a ≤ 255 := by
  have h1 := wf_u8_out h
  exact ⟨h1.1, by have := h1.2; omega⟩
theorem lsqBehind_law (a0 : Option Addr) (c0 : Nat) (l0 : List Slt) (a1 : Int) (a2 : Bool) (W : World) (hL : laidMetH Tryd.prog Rows.lsqBehindRow.laid W) (m0 : l0.length ≤ c0) (b0 : c0 ≤ 9223372036854775807) (_ : a0 = none → c0 = 0 ∧ l0 = []) (w0 : Wslts l0) (r0 : Rd W W.heap.size a0 (cellsS l0)) (w1 : (Lit.int .u8 a1).wf = true) :
    Calls Tryd.prog 3 #[.slice a0 l0.length c0, .int .u8 a1, .bool a2] W fun e w' => e = .returned (.bool true) ∧ Below W.heap.size W w' :=
  behind_walk a0 c0 l0 a1 a2 W m0 b0 w0 (u8_le w1).1 (u8_le w1).2 r0 (tab16_laid hL)
end Go.Proofs.YtoaonoflekcccaaDoor
