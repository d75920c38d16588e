/- Picks that came in: one by value, and a slice of them, read as a list; numbers that fit their kinds, as bounds; the laws as the claims ask them. -/
import Derived.Test.YtdhooabamoehiaaRows
import Derived.Test.YtdhooabamoehiaaPk
import Derived.Test.YtdhooabamoehiaaLaw
import Derived.Test.YtdhooabamoehiaaFl2
import Derived.Test.YtdhooabamoehiaaJn
import Derived.WalkKit
import Derived.ProofKit
import Derived.OpenShut
import Derived.Deep.Slices
import Derived.Deep.Fields
import Derived.ChangeSame
import Derived.Lib.SmallJoins
import Derived.Laws.Cover2
namespace Go.Proofs.Ytdhooabamoehiaa
open Go.ChangeShapes Go.WideShapes Go.ChangeAt Go.RowKit Go.Deep

theorem wf_i64_out {a : Int} (h : (Lit.int .i64 a).wf = true) : -9223372036854775808 ≤ a ∧ a ≤ 9223372036854775807 := by
  simp [Lit.wf, IntKind.min, IntKind.max, IntKind.signed, IntKind.bits] at h; omega
theorem wf_f64_out {b : Nat} (h : (Lit.float .f64 b).wf = true) : b < 18446744073709551616 := by
  simp [Lit.wf] at h; omega
theorem trod_f64 {H : Type} {enc : TypeId × Value → H} {P : Program} {w : World} {base : Nat} {spare : Nat → Bool} {held : Bool} {t : TypeId} {fuel : Nat} {v : Value} {x : DataW H × List MemPlace}
    (ht : P.underlying t = some (.float .f64)) (h : DataW.trod enc P w base spare held fuel t [v] = some x) : ∃ b, v = .float .f64 b ∧ (Lit.float .f64 b).wf = true := by
  cases fuel with
  | zero => simp [DataW.trod] at h
  | succ n =>
    simp only [DataW.trod, ht] at h
    split at h
    all_goals first
      | (rename_i q _; cases q; done)
      | (rename_i q1 q2; cases q1; cases q2; split at h <;> first | (rename_i g; have g1 := g.1; subst g1; exact ⟨_, rfl, g.2⟩) | (cases h; done))
      | (cases h; done)
      | (rename_i q; cases q; done)

section
variable {H : Type} {enc : TypeId × Value → H} {w : World} {spare : Nat → Bool} {held : Bool}
/-- The three cells of a pick that came in. -/
theorem pick_cells {base fuel : Nat} {cs : List Value} {x : DataW H × List MemPlace} (h : DataW.trod enc Try.prog w base spare held fuel 28 cs = some x) :
    ∃ p : Pk, cs = pkCells p ∧ p.at' < 18446744073709551616 := by
  obtain ⟨xs, n, _, _, hl, hx, hf⟩ := DataW.trod_struct Try.underlying28 h
  rw [show Try.prog.cellsOf 28 = 3 by kernel_rfl] at hl
  match cs, hl with
  | [v0, v1, v2], _ =>
    have hx3 : xs.length = 3 := hx
    have g0 : DataW.trod enc Try.prog w base spare held n 3 (([v0, v1, v2].drop 0).take (Try.prog.cellsOf 3)) = xs[0]? := hf 0 _ rfl
    have g1 : DataW.trod enc Try.prog w base spare held n 3 (([v0, v1, v2].drop 1).take (Try.prog.cellsOf 3)) = xs[1]? := hf 1 _ rfl
    have g2 : DataW.trod enc Try.prog w base spare held n 22 (([v0, v1, v2].drop 2).take (Try.prog.cellsOf 22)) = xs[2]? := hf 2 _ rfl
    rw [show Try.prog.cellsOf 3 = 1 by kernel_rfl] at g0 g1
    rw [show Try.prog.cellsOf 22 = 1 by kernel_rfl] at g2
    match xs, hx3 with
    | [y0, y1, y2], _ =>
      obtain ⟨c, e0, _, _⟩ := DataW.trod_int Try.underlying3 (x := y0) g0
      obtain ⟨u, e1, _, _⟩ := DataW.trod_int Try.underlying3 (x := y1) g1
      obtain ⟨b, rfl, hb⟩ := trod_f64 Try.underlying22 (x := y2) g2
      simp at e0 e1
      subst e0 e1
      exact ⟨⟨c, u, b⟩, rfl, wf_f64_out hb⟩

/-- A pick that came in by value. -/
theorem open_pick {r : Reach} {b0 base : Nat} {v : Value} {d : DataW H} {p : List MemPlace} (hv : Value.okWide Try.prog w r b0 28 v) (h : DataW.Trod enc Try.prog w base spare held 28 v d p) :
    ∃ (c u : Int) (b : Nat), v = .agg #[.int .i64 c, .int .i64 u, .float .f64 b] ∧ b < 18446744073709551616 := by
  obtain ⟨v0, v1, v2, y0, y1, y2, n, rfl, _, _, g0, g1, g2⟩ := Go.Joins.open_agg3 Try.underlying28 (by kernel_rfl) (by kernel_rfl) hv h
  obtain ⟨c, e0, _, _⟩ := DataW.trod_int Try.underlying3 g0
  obtain ⟨u, e1, _, _⟩ := DataW.trod_int Try.underlying3 g1
  obtain ⟨b, rfl, hb⟩ := trod_f64 Try.underlying22 g2
  simp at e0 e1
  subst e0 e1
  exact ⟨c, u, b, rfl, wf_f64_out hb⟩

/-- A slice of picks that came in: its list, and that the cells hold it. -/
theorem slice_picks {A : Option Addr} {len cap : Nat} {x : DataW H × List MemPlace}
    (h : ∃ fuel, DataW.trod enc Try.prog w 0 spare held fuel 31 (Value.slice A len cap).cells.toList = some x) :
    ∃ l : List Pk, len = l.length ∧ l.length ≤ cap ∧ cap ≤ 9223372036854775807 ∧ (A = none → cap = 0 ∧ l = []) ∧ Wd l ∧ Rd w w.heap.size A (cellsP l) := by
  obtain ⟨fuel, hf⟩ := h
  rcases open_slice Try.underlying31 hf with ⟨hcs, _⟩ | ⟨a, n, c, m, k, D, Pl, hcs, _, hl, hm, hmm, _, hx⟩
  · simp [Value.cells] at hcs
    obtain ⟨rfl, rfl, rfl⟩ := hcs
    exact ⟨[], rfl, by simp, by simp, fun _ => ⟨rfl, rfl⟩, (fun p hp => by cases hp), Or.inl rfl⟩
  · simp [Value.cells] at hcs
    obtain ⟨rfl, rfl, rfl⟩ := hcs
    have hlm : len ≤ m := by rw [hmm]; split <;> omega
    obtain ⟨b, off, sp⟩ := a
    rw [show Try.prog.cellsOf 28 = 3 by kernel_rfl] at hx
    have each : ∀ i, i < m → ∃ p : Pk, p.at' < 18446744073709551616 ∧ ∀ j, j < 3 → w.cell? ((Addr.mk b off sp).add (i * 3) |>.add j) = (pkCells p)[j]? := by
      intro i hi
      obtain ⟨cs', h1, h2⟩ := hx i hi
      obtain ⟨p, rfl, hp⟩ := pick_cells h2
      exact ⟨p, hp, (World.cells?_some h1).2.2⟩
    obtain ⟨F, hF⟩ : ∃ F : Nat → Pk, ∀ i, i < m → (F i).at' < 18446744073709551616 ∧ ∀ j, j < 3 → w.cell? ((Addr.mk b off sp).add (i * 3) |>.add j) = (pkCells (F i))[j]? :=
      ⟨fun i => if h : i < m then Classical.choose (each i h) else ⟨0, 0, 0⟩, fun i hi => by
        simp only [hi, dif_pos]
        exact Classical.choose_spec (each i hi)⟩
    have hlen : ((List.range len).map F).length = len := by simp
    refine ⟨(List.range len).map F, hlen.symm, by rw [hlen]; exact hl, by unfold maxLen at hm; omega, (fun h => by cases h), ?_, ?_⟩
    · intro p hp
      obtain ⟨i, hi, rfl⟩ := List.mem_map.1 hp
      exact (hF i (by have := List.mem_range.1 hi; omega)).1
    · rcases Nat.eq_zero_or_pos len with h0 | h0
      · subst h0; exact .inl rfl
      · have h00 : w.cell? ((Addr.mk b off sp).add (0 * 3) |>.add 0) = some (.int .i64 (F 0).core) := (hF 0 (by omega)).2 0 (by decide)
        have hsp : sp = none := by simpa [Addr.add] using World.cell?_spot h00
        subst hsp
        have hat : ∀ i, i < len → ∀ j, j < 3 → w.cell? ⟨b, off + i * 3 + j, none⟩ = (pkCells (F i))[j]? := fun i hi j hj => by
          rw [← (hF i (by omega)).2 j hj, add_plain, add_plain]
        refine .inr ⟨b, off, rfl, World.block_lt_of_cell? w ⟨b, off + 0 * 3 + 0, none⟩ (hat 0 h0 0 (by decide)), fun i v hv => ?_⟩
        have hi : i < len * 3 := by
          have := (List.getElem?_eq_some_iff.1 hv).1
          rw [cellsP_len, hlen] at this
          exact this
        obtain ⟨q, j, hj, rfl⟩ : ∃ q j, j < 3 ∧ i = q * 3 + j := ⟨i / 3, i % 3, by omega, by omega⟩
        have hq : q < len := by omega
        have hc := cellsP_at (l := (List.range len).map F) (i := q) (by rw [hlen]; exact hq)
        have ha := hat q hq j hj
        have e2 : ((List.range len).map F)[q]'(by rw [hlen]; exact hq) = F q := by simp
        rw [e2] at hc
        rw [Nat.add_assoc] at ha
        rw [ha, ← hv]
        have h3 : j = 0 ∨ j = 1 ∨ j = 2 := by omega
        rcases h3 with rfl | rfl | rfl
        · rw [Nat.add_zero, hc.1]; rfl
        · rw [hc.2.1]; rfl
        · rw [hc.2.2]; rfl
end

/-! ### The laws as the claims ask them -/
theorem chooseOf_law (n : Int) (b : Nat) (W : World) (_ : (Lit.int .i64 n).wf = true) (wb : (Lit.float .f64 b).wf = true) :
    Calls Try.prog 3 #[.int .i64 n, .float .f64 b] W fun e w' => e = .returned (.bool true) ∧ Below W.heap.size W w' := of_law n b (wf_f64_out wb) W
theorem chooseRight_law (c u : Int) (b : Nat) (W : World) (hb : b < 18446744073709551616) :
    Calls Try.prog 4 #[.agg #[.int .i64 c, .int .i64 u, .float .f64 b]] W fun e w' => e = .returned (.bool true) ∧ Below W.heap.size W w' := right_law c u b hb W
theorem chooseOne_law (n : Int) (b : Nat) (W : World) (wn : (Lit.int .i64 n).wf = true) (wb : (Lit.float .f64 b).wf = true) :
    Calls Try.prog 6 #[.int .i64 n, .float .f64 b] W fun e w' => e = .returned (.bool true) ∧ Below W.heap.size W w' := one_law n b (wf_f64_out wb) (wf_i64_out wn).2 (wf_i64_out wn).1 W
theorem chooseFair_law (A : Option Addr) (cap : Nat) (l : List Pk) (v : Int) (W : World) (h1 : l.length ≤ cap) (h2 : cap ≤ 9223372036854775807) (_ : A = none → cap = 0 ∧ l = []) (hw : Wd l) (hr : Rd W W.heap.size A (cellsP l)) (wv : (Lit.int .i64 v).wf = true) :
    Calls Try.prog 5 #[.slice A l.length cap, .int .i64 v] W fun e w' => e = .returned (.bool true) ∧ Below W.heap.size W w' :=
  fair_law A cap l v (by omega) h1 h2 (wf_i64_out wv).2 (wf_i64_out wv).1 hw W hr
theorem chooseJoin_law (A : Option Addr) (cap : Nat) (l : List Pk) (B : Option Addr) (bap : Nat) (m : List Pk) (v : Int) (W : World) (h1 : l.length ≤ cap) (h2 : cap ≤ 9223372036854775807) (hA : A = none → cap = 0 ∧ l = []) (hw : Wd l) (hr : Rd W W.heap.size A (cellsP l))
    (g1 : m.length ≤ bap) (g2 : bap ≤ 9223372036854775807) (hB : B = none → bap = 0 ∧ m = []) (hwm : Wd m) (hrm : Rd W W.heap.size B (cellsP m)) (wv : (Lit.int .i64 v).wf = true) :
    Calls Try.prog 7 #[.slice A l.length cap, .slice B m.length bap, .int .i64 v] W fun e w' => e = .returned (.bool true) ∧ Below W.heap.size W w' :=
  join_law A cap l B bap m v (by omega) h1 h2 hA (by omega) g1 g2 hB (wf_i64_out wv).2 (wf_i64_out wv).1 hw hwm W hr hrm
end Go.Proofs.Ytdhooabamoehiaa
