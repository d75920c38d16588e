/- Layer 13: writes and acts that came in. -/
import Derived.Test.YtcddgcchpmjdiaaOg
import Derived.Test.YtcddgcchpmjdiaaTi
import Derived.Test.YtcddgcchpmjdiaaMm
set_option maxRecDepth 100000
namespace Go.Proofs.Ytcddgcchpmjdiaa
open Go.ChangeShapes Go.WideShapes Go.ChangeAt Go.RowKit Go.Deep

/-- A write that came in. -/
structure Wwr (x : Wr) : Prop where
  id : I64 x.id
  addr : I64 x.addr
  size : I64 x.size
  data : 0 ≤ x.data ∧ x.data < 2 ^ 64
structure At where
  kind : Int
  w : Wr
def atCells (x : At) : Array Value := #[.int .i64 x.kind, .int .i64 x.w.id, .int .i64 x.w.addr, .int .i64 x.w.size, .int .u64 x.w.data]
def cellsA (l : List At) : List Value := l.flatMap fun x => (atCells x).toList
structure Wat (x : At) : Prop where
  kind : I64 x.kind
  w : Wwr x.w
def Wats (l : List At) : Prop := ∀ k ∈ l, Wat k
section
variable {H : Type} {enc : TypeId × Value → H} {w : World} {spare : Nat → Bool} {held : Bool}
theorem wr_cells {base fuel : Nat} {cs : List Value} {x : DataW H × List MemPlace} (h : DataW.trod enc Try.prog w base spare held fuel 34 cs = some x) : ∃ k : Wr, cs = (wrCells k).toList ∧ Wwr k := by
  obtain ⟨xs, n, _, _, hl, hx, hf⟩ := DataW.trod_struct Try.underlying34 h
  rw [show Try.prog.cellsOf 34 = 4 by kernel_rfl] at hl
  match cs, hl with
  | [v0, v1, v2, v3], _ =>
    have hx4 : xs.length = 4 := hx
    have g0 : DataW.trod enc Try.prog w base spare held n 3 (([v0, v1, v2, v3].drop 0).take (Try.prog.cellsOf 3)) = xs[0]? := hf 0 _ rfl
    have g1 : DataW.trod enc Try.prog w base spare held n 3 (([v0, v1, v2, v3].drop 1).take (Try.prog.cellsOf 3)) = xs[1]? := hf 1 _ rfl
    have g2 : DataW.trod enc Try.prog w base spare held n 3 (([v0, v1, v2, v3].drop 2).take (Try.prog.cellsOf 3)) = xs[2]? := hf 2 _ rfl
    have g3 : DataW.trod enc Try.prog w base spare held n 32 (([v0, v1, v2, v3].drop 3).take (Try.prog.cellsOf 32)) = xs[3]? := hf 3 _ rfl
    rw [show Try.prog.cellsOf 3 = 1 by kernel_rfl] at g0 g1 g2
    rw [show Try.prog.cellsOf 32 = 1 by kernel_rfl] at g3
    match xs, hx4 with
    | [y0, y1, y2, y3], _ =>
      obtain ⟨a0, e0, _, w0⟩ := DataW.trod_int Try.underlying3 (x := y0) g0
      obtain ⟨a1, e1, _, w1⟩ := DataW.trod_int Try.underlying3 (x := y1) g1
      obtain ⟨a2, e2, _, w2⟩ := DataW.trod_int Try.underlying3 (x := y2) g2
      obtain ⟨a3, e3, _, w3⟩ := DataW.trod_int Try.underlying32 (x := y3) g3
      simp at e0 e1 e2 e3
      subst e0 e1 e2 e3
      exact ⟨⟨a0, a1, a2, a3⟩, rfl, wf_i64_out w0, wf_i64_out w1, wf_i64_out w2, wf_u64_out w3⟩
theorem at_cells {base fuel : Nat} {cs : List Value} {x : DataW H × List MemPlace} (h : DataW.trod enc Try.prog w base spare held fuel 36 cs = some x) : ∃ k : At, cs = (atCells k).toList ∧ Wat k := by
  obtain ⟨xs, n, _, _, hl, hx, hf⟩ := DataW.trod_struct Try.underlying36 h
  rw [show Try.prog.cellsOf 36 = 5 by kernel_rfl] at hl
  match cs, hl with
  | [v0, v1, v2, v3, v4], _ =>
    have hx3 : xs.length = 2 := hx
    have g0 : DataW.trod enc Try.prog w base spare held n 3 (([v0, v1, v2, v3, v4].drop 0).take (Try.prog.cellsOf 3)) = xs[0]? := hf 0 _ rfl
    have g1 : DataW.trod enc Try.prog w base spare held n 34 (([v0, v1, v2, v3, v4].drop 1).take (Try.prog.cellsOf 34)) = xs[1]? := hf 1 _ rfl
    rw [show Try.prog.cellsOf 3 = 1 by kernel_rfl] at g0
    rw [show Try.prog.cellsOf 34 = 4 by kernel_rfl] at g1
    match xs, hx3 with
    | [y0, y1], _ =>
      obtain ⟨a0, e0, _, w0⟩ := DataW.trod_int Try.underlying3 (x := y0) g0
      obtain ⟨k, e2, w2⟩ := wr_cells (x := y1) g1
      simp [wrCells] at e0 e2
      obtain ⟨f0, f1, f2, f3⟩ := e2
      subst e0 f0 f1 f2 f3
      exact ⟨⟨a0, k⟩, rfl, wf_i64_out w0, w2⟩
theorem open_wr {r : Reach} {b0 base : Nat} {v : Value} {d : DataW H} {p : List MemPlace} (hv : Value.okWide Try.prog w r b0 34 v) (h : DataW.Trod enc Try.prog w base spare held 34 v d p) :
    ∃ k : Wr, v = .agg (wrCells k) ∧ Wwr k := by
  obtain ⟨cs, rfl, hsz⟩ := okWide_struct Try.underlying34 hv
  obtain ⟨fuel, hf⟩ := h
  obtain ⟨k, hk, ho⟩ := wr_cells hf
  have e : cs.toList = (wrCells k).toList := hk
  have e2 : cs = wrCells k := Array.toList_inj.1 e
  exact ⟨k, by rw [e2], ho⟩
theorem slice_ats {A : Option Addr} {len cap : Nat} {x : DataW H × List MemPlace} (h : ∃ fuel, DataW.trod enc Try.prog w 0 spare held fuel 22 (Value.slice A len cap).cells.toList = some x) :
    ∃ l : List At, len = l.length ∧ l.length ≤ cap ∧ cap ≤ 9223372036854775807 ∧ (A = none → cap = 0 ∧ l = []) ∧ Wats l ∧ Rd w w.heap.size A (cellsA l) :=
  slice_any (z := 5) (fun x => (atCells x).toList) Wat (fun _ => rfl) (by decide) Try.underlying22 (by kernel_rfl) (fun _ _ _ h => at_cells h) h
end
end Go.Proofs.Ytcddgcchpmjdiaa
