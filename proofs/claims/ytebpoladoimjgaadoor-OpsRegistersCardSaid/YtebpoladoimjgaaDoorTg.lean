/- The contracts of the document's Target and Sources. -/
import Derived.Test.YtebpoladoimjgaaDoorRows
import Derived.Test.YtebpoladoimjgaaDoorSz
import Derived.WalkKit
import Derived.WalkLawsBesides
import Derived.Deep.QuietTactic
import Derived.BigQuiet
import Derived.WalkSmall
import Derived.WalkSpells
import Derived.Lib.Hide
import Derived.Below
import Derived.Deep.Cut
import Derived.OwnWalk
import Derived.Laws.AppendOwn
namespace Go.Proofs.YtebpoladoimjgaaDoor
open Go.RowKit

structure Ins where
  op : Int
  rd : Int
  rs1 : Int
  rs2 : Int
  imm : Int
  aq : Bool
  rl : Bool
  pred : Int
  succ : Int
def insCells (i : Ins) : Array Value := #[.int .i64 i.op, .int .i64 i.rd, .int .i64 i.rs1, .int .i64 i.rs2, .int .i64 i.imm, .bool i.aq, .bool i.rl, .int .i64 i.pred, .int .i64 i.succ]
def insV (i : Ins) : Value := .agg #[.int .i64 i.op, .int .i64 i.rd, .int .i64 i.rs1, .int .i64 i.rs2, .int .i64 i.imm, .bool i.aq, .bool i.rl, .int .i64 i.pred, .int .i64 i.succ]
/-- The instruction lies at block g. -/
def InsAt (i : Ins) (g : Nat) (w : World) : Prop := g < w.heap.size ∧ ∀ k v, (insCells i)[k]? = some v → w.cell? ⟨g, k, none⟩ = some v
theorem InsAt.new (i : Ins) (w : World) (t : TypeId) : InsAt i w.heap.size (w.alloc (.cells (insCells i) t)) := by
  refine ⟨by simp, fun k v h => ?_⟩
  rw [cell_of_row (w.alloc (.cells (insCells i) t)) w.heap.size k (insCells i) t (0, 0) (heap_alloc_last w _)]
  exact h
theorem InsAt.on {i : Ins} {g : Nat} {w w' : World} (h : InsAt i g w) (hb : Below w.heap.size w w') : InsAt i g w' :=
  ⟨Nat.lt_of_lt_of_le h.1 hb.size, fun k v hv => (hb.cell (p := ⟨g, k, none⟩) h.1).trans (h.2 k v hv)⟩
theorem InsAt.cells {i : Ins} {g : Nat} {w : World} (h : InsAt i g w) :
    w.cell? ⟨g, 0, none⟩ = some (.int .i64 i.op) ∧ w.cell? ⟨g, 1, none⟩ = some (.int .i64 i.rd) ∧ w.cell? ⟨g, 2, none⟩ = some (.int .i64 i.rs1) ∧ w.cell? ⟨g, 3, none⟩ = some (.int .i64 i.rs2) :=
  ⟨h.2 0 _ rfl, h.2 1 _ rfl, h.2 2 _ rfl, h.2 3 _ rfl⟩

def tgt (i : Ins) : Int := if wrB i.op then regV i.rd else 0
theorem BW.past {w X w1 : World} (hB : Below w.heap.size w X) (h : BW X w1) : Below w.heap.size w w1 := hB.trans (Below.mono h hB.size)
theorem rtarget_any (i : Ins) (h0 : -9223372036854775808 ≤ i.op) (h1 : i.op ≤ 9223372036854775807) (w : World) :
    Calls Tryd.prog 12 #[insV i] w fun e w' => e = .returned (.int .i64 (tgt i)) ∧ Below w.heap.size w w' := by
  have HI := Lib.hid (InsAt.new i w 25)
  have HB : Hid (Below w.heap.size w (w.alloc (.cells (insCells i) 25))) := (Below.refl _ _).alloc (Nat.le_refl _) _
  have HW := fun w => rwrites_any i.op h0 h1 w
  have HR := fun w => rregister_any i.rd w
  unfold insV
  unfold insCells at HI HB
  cases hw : wrB i.op
  · have HV : Hid (tgt i = 0) := by show _ = _; unfold tgt; rw [hw]; rfl
    rw [hw] at HW
    clear hw
    obtain ⟨op, rd, rs1, rs2, imm, aq, rl, pred, succ⟩ := i
    simp only at h0 h1 HW HR ⊢
    go_enter Tryd.func12, Tryd.ntmps12
    go_wp2_with (first
      | (go_at_call 31; refine (HW _).mono ?_; rintro e w1 ⟨rfl, hb⟩))
    go_ret
    exact ⟨ret_int HV.out.symm, BW.past HB.out hb⟩
  · have HV : Hid (tgt i = regV i.rd) := by show _ = _; unfold tgt; rw [hw]; rfl
    rw [hw] at HW
    clear hw
    obtain ⟨op, rd, rs1, rs2, imm, aq, rl, pred, succ⟩ := i
    simp only at h0 h1 HW HR HV ⊢
    go_enter Tryd.func12, Tryd.ntmps12
    go_wp2_with (first
      | (go_at_call 31; refine (HW _).mono ?_; rintro e w1 ⟨rfl, hb⟩; have hc := (HI.out.on hb).cells.2.1; simp only at hc; have HBB := Lib.hid hb; clear hb)
      | (go_at_call 28; refine (HR _).mono ?_; rintro e w1 ⟨rfl, rfl⟩))
    go_ret
    exact ⟨ret_int HV.out.symm, BW.past HB.out HBB.out⟩

/-- The registers that an instruction reads. -/
def srcs (i : Ins) : List Int := (if firB i.op && decide (1 ≤ i.rs1 ∧ i.rs1 ≤ 31) then [i.rs1] else []) ++ (if secB i.op && decide (1 ≤ i.rs2 ∧ i.rs2 ≤ 31) then [i.rs2] else [])
theorem reg_pos (r : Int) : (0 < regV r) = (1 ≤ r ∧ r ≤ 31) := by
  unfold regV
  split <;> (apply propext; constructor <;> intro h <;> omega)
def cellsI (l : List Int) : List Value := l.map (Value.int .i64)
/-- The slice at A holds the cells xs, below block B; the empty one may be anywhere. -/
def Rd (w : World) (B : Nat) (A : Option Addr) (xs : List Value) : Prop :=
  xs = [] ∨ ∃ b off, A = some ⟨b, off, none⟩ ∧ b < B ∧ ∀ i v, xs[i]? = some v → w.cell? ⟨b, off + i, none⟩ = some v
theorem Rd.of_own {w : World} {base : Nat} {e : TypeId} {n c : Nat} {A : Option Addr} {xs : List Value} (h : w.ownsRow base e 1 (.slice A n c) n xs) : Rd w w.heap.size A xs := by
  rcases h with ⟨hl, ⟨_, h0⟩ | ⟨g, cap, cur, hv, _, hh, _, _, _, ht⟩⟩
  · exact .inl (List.eq_nil_of_length_eq_zero (by omega))
  · cases hv
    have hlt : g < w.heap.size := by
      rcases Nat.lt_or_ge g w.heap.size with h | h
      · exact h
      · rw [Array.getElem?_eq_none h] at hh; cases hh
    refine .inr ⟨g, 0, rfl, hlt, fun i v hv => ?_⟩
    rw [cell_of_row w g (0 + i) cur e (0, 0) hh, ← ht] at *
    rw [List.getElem?_take] at hv
    split at hv
    · simpa using hv
    · cases hv
theorem own_form {w : World} {base : Nat} {e : TypeId} {n : Nat} {v : Value} {xs : List Value} (h : w.ownsRow base e 1 v n xs) : ∃ A c, v = .slice A n c ∧ Rd w w.heap.size A xs := by
  have h' := h
  rcases h' with ⟨_, ⟨rfl, rfl⟩ | ⟨g, cap, _, rfl, _⟩⟩
  · exact ⟨none, 0, rfl, Rd.of_own h⟩
  · exact ⟨_, cap, rfl, Rd.of_own h⟩
/-- The call returns a list of registers, in new memory or none. -/
def RetI (w : World) (l : List Int) (e : Ending) (w' : World) : Prop := ∃ A cap, e = .returned (.slice A l.length cap) ∧ Rd w' w'.heap.size A (cellsI l) ∧ Below w.heap.size w w'
theorem RetI.of_own {w w' : World} {l : List Int} {base : Nat} {e : TypeId} {n : Nat} {v : Value} (h : w'.ownsRow base e 1 v n (cellsI l)) (hb : Below w.heap.size w w') : RetI w l (.returned v) w' := by
  obtain ⟨A, c, rfl, hr⟩ := own_form h
  have hn : n = l.length := by have := h.1; unfold cellsI at this; rw [List.length_map] at this; omega
  subst hn
  exact ⟨A, c, rfl, hr, hb⟩
theorem info_int : (Tryd.prog.info? 3).map (fun i => (i.zero, i.size, i.bytes)) = some (some (.int .i64 0), 1, 8) := by kernel_rfl
theorem cell_new (w : World) (v : Value) (t : TypeId) : ∀ j u, [v][j]? = some u → (w.alloc (.cells #[v] t)).cell? ((⟨w.heap.size, 0, none⟩ : Addr).add j) = some u := by
  intro j u h
  cases j with
  | zero => simp at h; subst h; simp [Addr.add]
  | succ j => simp at h

theorem grown_of {w w' : World} (h : Below w.heap.size w w') : w.grownBy w' none := ⟨h.os, h.tape, h.output, h.size, fun k hk _ => h.block k hk⟩
theorem past_grown {w w' : World} {o : Obj} (h : (w.alloc o).grownBy w' none) : Below w.heap.size w w' :=
  ((Below.refl _ _).alloc (Nat.le_refl _) _).grown h (by simp) (fun _ h => by cases h)
theorem own_on {w w' : World} {base : Nat} {e : TypeId} {n : Nat} {v : Value} {xs : List Value} (h : w.ownsRow base e 1 v n xs) (hb : Below w.heap.size w w') : w'.ownsRow base e 1 v n xs :=
  h.kept (grown_of hb) (by cases v.ownBlock <;> simp)
set_option maxHeartbeats 4000000 in
theorem rsources_any (i : Ins) (h0 : -9223372036854775808 ≤ i.op) (h1 : i.op ≤ 9223372036854775807) (w : World) :
    Calls Tryd.prog 10 #[insV i] w (RetI w (srcs i)) := by
  obtain ⟨i0, hi, hz0, hz1, hz2⟩ := info_parts info_int
  have HI := Lib.hid (InsAt.new i w 25)
  have HB : Hid (BW w (w.alloc (.cells (insCells i) 25))) := (Below.refl _ _).alloc (Nat.le_refl _) _
  have HF := fun w => rfirst_any i.op h0 h1 w
  have HS := fun w => rsecond_any i.op h0 h1 w
  have HR1 := fun w => rregister_any i.rs1 w
  have HR2 := fun w => rregister_any i.rs2 w
  have P1 := reg_pos i.rs1
  have P2 := reg_pos i.rs2
  unfold insV
  unfold insCells at HI HB
  have HL : Hid (∀ f s : Bool, ∀ c1 c2 : Bool, firB i.op = f → secB i.op = s → decide (1 ≤ i.rs1 ∧ i.rs1 ≤ 31) = c1 → decide (1 ≤ i.rs2 ∧ i.rs2 ≤ 31) = c2 → srcs i = (if f && c1 then [i.rs1] else []) ++ (if s && c2 then [i.rs2] else [])) := by
    intro f s c1 c2 a b c d
    unfold srcs; rw [a, b, c, d]
  cases hf : firB i.op <;> cases hs : secB i.op <;> cases hc1 : decide (1 ≤ i.rs1 ∧ i.rs1 ≤ 31) <;> cases hc2 : decide (1 ≤ i.rs2 ∧ i.rs2 ≤ 31)
  all_goals
    have HV := Lib.hid (HL.out _ _ _ _ hf hs hc1 hc2)
    rw [hf] at HF
    rw [hs] at HS
    first | (have g1 : ¬ 0 < regV i.rs1 := by rw [P1]; simpa using hc1) | (have g1 : 0 < regV i.rs1 := by rw [P1]; simpa using hc1)
    first | (have g2 : ¬ 0 < regV i.rs2 := by rw [P2]; simpa using hc2) | (have g2 : 0 < regV i.rs2 := by rw [P2]; simpa using hc2)
    clear hf hs hc1 hc2 P1 P2 HL
    obtain ⟨op, rd, rs1, rs2, imm, aq, rl, pred, succ⟩ := i
    simp only at h0 h1 HF HS HR1 HR2 HV g1 g2 ⊢
    go_enter Tryd.func10, Tryd.ntmps10
    first
    | (go_wp2_with (first
        | (at_builtin; refine wpList_append_own _ rfl _ _ 27 rfl w.heap.size 3 i0 (.int .i64 0) 1 8 Tryd.underlying27 hi hz0 hz1 hz2 rfl (by decide) _ 0 [] rfl (World.ownsRow_nil _ _ _ _) ⟨w1.heap.size, 0, none⟩ 1 1 [.int .i64 rs1] rfl rfl (cell_new _ _ _) (by simp [Value.oneCell']) (by unfold maxLen; omega) (by omega) (by have := HB1.out.size; simp; omega) ?_)
        | (go_at_call 27; refine (HF _).mono ?_; rintro e w1 ⟨rfl, hb⟩; have HB1 := Lib.hid (BW.past HB.out hb); have HI1 := Lib.hid (HI.out.on hb); obtain ⟨q0, q1, q2, q3⟩ := HI1.out.cells; simp only at q0 q1 q2 q3; clear hb)
        | (go_at_call 28; ((with_reducible refine (HR1 _).mono ?_); rintro e w1 ⟨rfl, rfl⟩))
        | (go_at_call 28; ((with_reducible refine (HR2 _).mono ?_); rintro e w1 ⟨rfl, rfl⟩))
        | (go_at_call 29; refine (HS _).mono ?_; rintro e w2 ⟨rfl, hb⟩; have HB2 := Lib.hid (BW.past HB1.out hb); obtain ⟨p0, p1, p2, p3⟩ := (HI1.out.on hb).cells; simp only at p0 p1 p2 p3; clear hb))
       go_ret
       exact ⟨none, 0, by rw [HV.out]; rfl, .inl (by rw [HV.out]; rfl), HB2.out⟩)
    | (go_wp2_with (first
        | (at_builtin; refine wpList_append_own _ rfl _ _ 27 rfl w.heap.size 3 i0 (.int .i64 0) 1 8 Tryd.underlying27 hi hz0 hz1 hz2 rfl (by decide) _ 0 [] rfl (World.ownsRow_nil _ _ _ _) ⟨w1.heap.size, 0, none⟩ 1 1 [.int .i64 rs1] rfl rfl (cell_new _ _ _) (by simp [Value.oneCell']) (by unfold maxLen; omega) (by omega) (by have := HB1.out.size; simp; omega) ?_)
        | (go_at_call 27; refine (HF _).mono ?_; rintro e w1 ⟨rfl, hb⟩; have HB1 := Lib.hid (BW.past HB.out hb); have HI1 := Lib.hid (HI.out.on hb); obtain ⟨q0, q1, q2, q3⟩ := HI1.out.cells; simp only at q0 q1 q2 q3; clear hb)
        | (go_at_call 28; ((with_reducible refine (HR1 _).mono ?_); rintro e w1 ⟨rfl, rfl⟩))
        | (go_at_call 28; ((with_reducible refine (HR2 _).mono ?_); rintro e w1 ⟨rfl, rfl⟩))
        | (go_at_call 29; refine (HS _).mono ?_; rintro e w2 ⟨rfl, hb⟩; have HB2 := Lib.hid (BW.past HB1.out hb); obtain ⟨p0, p1, p2, p3⟩ := (HI1.out.on hb).cells; simp only at p0 p1 p2 p3; clear hb))
       intro v1 wa hown1 hgrow1 hnn
       clear hnn
       have hpa := past_grown hgrow1
       have HBA : Hid (Below w.heap.size w wa) := HB1.out.trans (hpa.mono HB1.out.size)
       have HIA := Lib.hid (HI1.out.on hpa)
       obtain ⟨qa0, qa1, qa2, qa3⟩ := HIA.out.cells
       simp only at qa0 qa1 qa2 qa3
       have HO1 := Lib.hid hown1
       clear hgrow1 hpa hown1
       go_wp2_with (first
        | (at_builtin; refine wpList_append_own _ rfl _ _ 27 rfl w.heap.size 3 i0 (.int .i64 0) 1 8 Tryd.underlying27 hi hz0 hz1 hz2 rfl (by decide) _ 0 [] rfl (World.ownsRow_nil _ _ _ _) ⟨w2.heap.size, 0, none⟩ 1 1 [.int .i64 rs2] rfl rfl (cell_new _ _ _) (by simp [Value.oneCell']) (by unfold maxLen; omega) (by omega) (by have := HB2.out.size; simp; omega) ?_)
        | (go_at_call 29; refine (HS _).mono ?_; rintro e w2 ⟨rfl, hb⟩; have HB2 := Lib.hid (BW.past HBA.out hb); obtain ⟨p0, p1, p2, p3⟩ := (HIA.out.on hb).cells; simp only at p0 p1 p2 p3; have HO2 := Lib.hid (own_on HO1.out hb); clear hb)
        | (go_at_call 28; ((with_reducible refine (HR1 _).mono ?_); rintro e w1 ⟨rfl, rfl⟩))
        | (go_at_call 28; ((with_reducible refine (HR2 _).mono ?_); rintro e w1 ⟨rfl, rfl⟩)))
       go_ret
       exact RetI.of_own (by rw [HV.out]; exact HO2.out) HB2.out)
    | (go_wp2_with (first
        | (at_builtin; refine wpList_append_own _ rfl _ _ 27 rfl w.heap.size 3 i0 (.int .i64 0) 1 8 Tryd.underlying27 hi hz0 hz1 hz2 rfl (by decide) _ 0 [] rfl (World.ownsRow_nil _ _ _ _) ⟨w2.heap.size, 0, none⟩ 1 1 [.int .i64 rs2] rfl rfl (cell_new _ _ _) (by simp [Value.oneCell']) (by unfold maxLen; omega) (by omega) (by have := HB2.out.size; simp; omega) ?_)
        | (go_at_call 27; refine (HF _).mono ?_; rintro e w1 ⟨rfl, hb⟩; have HB1 := Lib.hid (BW.past HB.out hb); have HI1 := Lib.hid (HI.out.on hb); obtain ⟨q0, q1, q2, q3⟩ := HI1.out.cells; simp only at q0 q1 q2 q3; clear hb)
        | (go_at_call 28; ((with_reducible refine (HR1 _).mono ?_); rintro e w1 ⟨rfl, rfl⟩))
        | (go_at_call 28; ((with_reducible refine (HR2 _).mono ?_); rintro e w1 ⟨rfl, rfl⟩))
        | (go_at_call 29; refine (HS _).mono ?_; rintro e w2 ⟨rfl, hb⟩; have HB2 := Lib.hid (BW.past HB1.out hb); obtain ⟨p0, p1, p2, p3⟩ := (HI1.out.on hb).cells; simp only at p0 p1 p2 p3; clear hb))
       intro v1 wa hown1 hgrow1 hnn
       clear hnn
       have hpa := past_grown hgrow1
       have HBA : Hid (Below w.heap.size w wa) := HB2.out.trans (hpa.mono HB2.out.size)
       have HO1 := Lib.hid hown1
       clear hgrow1 hpa hown1
       go_wp2
       go_ret
       exact RetI.of_own (by rw [HV.out]; exact HO1.out) HBA.out)
    | (go_wp2_with (first
        | (at_builtin; refine wpList_append_own _ rfl _ _ 27 rfl w.heap.size 3 i0 (.int .i64 0) 1 8 Tryd.underlying27 hi hz0 hz1 hz2 rfl (by decide) _ 0 [] rfl (World.ownsRow_nil _ _ _ _) ⟨w1.heap.size, 0, none⟩ 1 1 [.int .i64 rs1] rfl rfl (cell_new _ _ _) (by simp [Value.oneCell']) (by unfold maxLen; omega) (by omega) (by have := HB1.out.size; simp; omega) ?_)
        | (go_at_call 27; refine (HF _).mono ?_; rintro e w1 ⟨rfl, hb⟩; have HB1 := Lib.hid (BW.past HB.out hb); have HI1 := Lib.hid (HI.out.on hb); obtain ⟨q0, q1, q2, q3⟩ := HI1.out.cells; simp only at q0 q1 q2 q3; clear hb)
        | (go_at_call 28; ((with_reducible refine (HR1 _).mono ?_); rintro e w1 ⟨rfl, rfl⟩))
        | (go_at_call 28; ((with_reducible refine (HR2 _).mono ?_); rintro e w1 ⟨rfl, rfl⟩))
        | (go_at_call 29; refine (HS _).mono ?_; rintro e w2 ⟨rfl, hb⟩; have HB2 := Lib.hid (BW.past HB1.out hb); obtain ⟨p0, p1, p2, p3⟩ := (HI1.out.on hb).cells; simp only at p0 p1 p2 p3; clear hb))
       intro v1 wa hown1 hgrow1 hnn
       clear hnn
       have hpa := past_grown hgrow1
       have HBA : Hid (Below w.heap.size w wa) := HB1.out.trans (hpa.mono HB1.out.size)
       have HIA := Lib.hid (HI1.out.on hpa)
       obtain ⟨qa0, qa1, qa2, qa3⟩ := HIA.out.cells
       simp only at qa0 qa1 qa2 qa3
       have HO1 := Lib.hid hown1
       clear hgrow1 hpa hown1
       go_wp2_with (first
        | (at_builtin; refine wpList_append_own _ rfl _ _ 27 rfl w.heap.size 3 i0 (.int .i64 0) 1 8 Tryd.underlying27 hi hz0 hz1 hz2 rfl (by decide) _ _ _ rfl (HO2.out.alloc _) ⟨w2.heap.size, 0, none⟩ 1 1 [.int .i64 rs2] rfl rfl (cell_new _ _ _) (by simp [Value.oneCell']) (by unfold maxLen; omega) (by omega) (by have := HB2.out.size; simp; omega) ?_)
        | (go_at_call 29; refine (HS _).mono ?_; rintro e w2 ⟨rfl, hb⟩; have HB2 := Lib.hid (BW.past HBA.out hb); obtain ⟨p0, p1, p2, p3⟩ := (HIA.out.on hb).cells; simp only at p0 p1 p2 p3; have HO2 := Lib.hid (own_on HO1.out hb); clear hb)
        | (go_at_call 28; ((with_reducible refine (HR1 _).mono ?_); rintro e w1 ⟨rfl, rfl⟩))
        | (go_at_call 28; ((with_reducible refine (HR2 _).mono ?_); rintro e w1 ⟨rfl, rfl⟩)))
       intro v2 wb hown2 hgrow2 hnn
       clear hnn
       have HBB : Hid (Below w.heap.size w wb) := (HB2.out.alloc HB2.out.size _).grown hgrow2 (by have := HB2.out.size; simp; omega) (fun q hq => (HO2.out.lt q hq).1)
       have HO3 := Lib.hid hown2
       clear hgrow2 hown2
       go_wp2
       go_ret
       exact RetI.of_own (by rw [HV.out]; exact HO3.out) HBB.out)
end Go.Proofs.YtebpoladoimjgaaDoor
