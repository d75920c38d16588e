/- An instruction and a string that came in, by value; integers' bounds. -/
import Derived.Test.YtbnacdhhacafkaaDoorRows
import Derived.Test.YtbnacdhhacafkaaDoorInst
import Derived.WalkKit
import Derived.ProofKit
import Derived.OpenShut
import Derived.Deep.Fields
import Derived.ChangeSame
import Derived.Laws.Cover2
namespace Go.Proofs.YtbnacdhhacafkaaDoor
open Go.ChangeShapes Go.WideShapes Go.ChangeAt Go.RowKit Go.Deep

theorem wf_u32_out {a : Int} (h : (Lit.int .u32 a).wf = true) : 0 ≤ a ∧ a < 4294967296 := by
  simp [Lit.wf, IntKind.min, IntKind.max, IntKind.signed, IntKind.bits] at h; omega
theorem wf_i64_out {a : Int} (h : (Lit.int .i64 a).wf = true) : -9223372036854775808 ≤ a ∧ a ≤ 9223372036854775807 := by
  simp [Lit.wf, IntKind.min, IntKind.max, IntKind.signed, IntKind.bits] at h; omega
section
variable {H : Type} {enc : TypeId × Value → H} {w : World} {spare : Nat → Bool} {held : Bool}
/-- The nine cells of an instruction that came in. -/
theorem inst_cells {base fuel : Nat} {cs : List Value} {x : DataW H × List MemPlace} (h : DataW.trod enc Tryd.prog w base spare held fuel 29 cs = some x) : ∃ i : Ins, cs = (insCells i).toList ∧ I64 i.op := by
  obtain ⟨xs, n, _, _, hl, hx, hf⟩ := DataW.trod_struct Tryd.underlying29 h
  rw [show Tryd.prog.cellsOf 29 = 9 by kernel_rfl] at hl
  match cs, hl with
  | [v0, v1, v2, v3, v4, v5, v6, v7, v8], _ =>
    have hx9 : xs.length = 9 := hx
    have g0 : DataW.trod enc Tryd.prog w base spare held n 3 (([v0, v1, v2, v3, v4, v5, v6, v7, v8].drop 0).take (Tryd.prog.cellsOf 3)) = xs[0]? := hf 0 _ rfl
    have g1 : DataW.trod enc Tryd.prog w base spare held n 3 (([v0, v1, v2, v3, v4, v5, v6, v7, v8].drop 1).take (Tryd.prog.cellsOf 3)) = xs[1]? := hf 1 _ rfl
    have g2 : DataW.trod enc Tryd.prog w base spare held n 3 (([v0, v1, v2, v3, v4, v5, v6, v7, v8].drop 2).take (Tryd.prog.cellsOf 3)) = xs[2]? := hf 2 _ rfl
    have g3 : DataW.trod enc Tryd.prog w base spare held n 3 (([v0, v1, v2, v3, v4, v5, v6, v7, v8].drop 3).take (Tryd.prog.cellsOf 3)) = xs[3]? := hf 3 _ rfl
    have g4 : DataW.trod enc Tryd.prog w base spare held n 2 (([v0, v1, v2, v3, v4, v5, v6, v7, v8].drop 4).take (Tryd.prog.cellsOf 2)) = xs[4]? := hf 4 _ rfl
    have g5 : DataW.trod enc Tryd.prog w base spare held n 4 (([v0, v1, v2, v3, v4, v5, v6, v7, v8].drop 5).take (Tryd.prog.cellsOf 4)) = xs[5]? := hf 5 _ rfl
    have g6 : DataW.trod enc Tryd.prog w base spare held n 4 (([v0, v1, v2, v3, v4, v5, v6, v7, v8].drop 6).take (Tryd.prog.cellsOf 4)) = xs[6]? := hf 6 _ rfl
    have g7 : DataW.trod enc Tryd.prog w base spare held n 3 (([v0, v1, v2, v3, v4, v5, v6, v7, v8].drop 7).take (Tryd.prog.cellsOf 3)) = xs[7]? := hf 7 _ rfl
    have g8 : DataW.trod enc Tryd.prog w base spare held n 3 (([v0, v1, v2, v3, v4, v5, v6, v7, v8].drop 8).take (Tryd.prog.cellsOf 3)) = xs[8]? := hf 8 _ rfl
    rw [show Tryd.prog.cellsOf 3 = 1 by kernel_rfl] at g0 g1 g2 g3 g7 g8
    rw [show Tryd.prog.cellsOf 2 = 1 by kernel_rfl] at g4
    rw [show Tryd.prog.cellsOf 4 = 1 by kernel_rfl] at g5 g6
    match xs, hx9 with
    | [y0, y1, y2, y3, y4, y5, y6, y7, y8], _ =>
      obtain ⟨a0, e0, _, w0⟩ := DataW.trod_int Tryd.underlying3 (x := y0) g0
      obtain ⟨a1, e1, _, _⟩ := DataW.trod_int Tryd.underlying3 (x := y1) g1
      obtain ⟨a2, e2, _, _⟩ := DataW.trod_int Tryd.underlying3 (x := y2) g2
      obtain ⟨a3, e3, _, _⟩ := DataW.trod_int Tryd.underlying3 (x := y3) g3
      obtain ⟨a4, e4, _, _⟩ := DataW.trod_int Tryd.underlying2 (x := y4) g4
      obtain ⟨a5, e5, _⟩ := DataW.trod_bool Tryd.underlying4 (x := y5) g5
      obtain ⟨a6, e6, _⟩ := DataW.trod_bool Tryd.underlying4 (x := y6) g6
      obtain ⟨a7, e7, _, _⟩ := DataW.trod_int Tryd.underlying3 (x := y7) g7
      obtain ⟨a8, e8, _, _⟩ := DataW.trod_int Tryd.underlying3 (x := y8) g8
      simp at e0 e1 e2 e3 e4 e5 e6 e7 e8
      subst e0 e1 e2 e3 e4 e5 e6 e7 e8
      exact ⟨⟨a0, a1, a2, a3, a4, a5, a6, a7, a8⟩, rfl, wf_i64_out w0⟩
/-- An instruction that came in by value. -/
theorem open_inst {r : Reach} {b0 base : Nat} {v : Value} {d : DataW H} {p : List MemPlace} (hv : Value.okWide Tryd.prog w r b0 29 v) (h : DataW.Trod enc Tryd.prog w base spare held 29 v d p) :
    ∃ i : Ins, v = insV i ∧ I64 i.op := by
  obtain ⟨cs, rfl, hsz⟩ := okWide_struct Tryd.underlying29 hv
  obtain ⟨fuel, hf⟩ := h
  obtain ⟨i, hi, ho⟩ := inst_cells hf
  refine ⟨i, ?_, ho⟩
  have e : cs.toList = (insCells i).toList := hi
  have e2 : cs = insCells i := Array.toList_inj.1 e
  rw [e2]; rfl
/-- A string that came in. -/
theorem open_str {r : Reach} {b0 base : Nat} {v : Value} {d : DataW H} {p : List MemPlace} (_ : Value.okWide Tryd.prog w r b0 9 v) (h : DataW.Trod enc Tryd.prog w base spare held 9 v d p) : ∃ s : ByteArray, v = .string s := by
  obtain ⟨fuel, hf⟩ := h
  obtain ⟨s, hs, _⟩ := DataW.trod_string Tryd.underlying9 hf
  refine ⟨s, ?_⟩
  obtain ⟨s', rfl⟩ := okWide_string Tryd.underlying9 ‹_›
  simpa [Value.cells] using hs
end
end Go.Proofs.YtbnacdhhacafkaaDoor
