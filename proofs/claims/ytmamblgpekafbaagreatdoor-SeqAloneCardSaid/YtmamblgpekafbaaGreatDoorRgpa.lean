/- Of stage 11. -/
import Derived.Test.YtmamblgpekafbaaGreatDoorEwpa
import Derived.Test.YtmamblgpekafbaaGreatDoorOcpa
import Derived.Deep.CutRange
import Derived.Deep.RegionHeld3
import Derived.Deep.DeepCutAuto
set_option maxRecDepth 100000
namespace Go.Proofs.YtmamblgpekafbaaGreatDoor
open Go.RowKit
def P1 (i : Ins) : Prop := srt i.op ≠ 0 ∧ 0 ≤ i.rd ∧ i.rd ≤ 31 ∧ 0 ≤ i.rs1 ∧ i.rs1 ≤ 31 ∧ 0 ≤ i.rs2 ∧ i.rs2 ≤ 31
def P2 (i : Ins) : Prop := (wrB i.op = true ∨ i.rd = 0) ∧ (firB i.op = true ∨ i.rs1 = 0) ∧ (secB i.op = true ∨ i.rs2 = 0) ∧ (10 ≤ srt i.op ∨ (i.aq = false ∧ i.rl = false))
def P3 (i : Ins) : Prop := (shV i.op = 6 → 0 ≤ i.imm ∧ i.imm ≤ 63) ∧ (shV i.op = 5 → 0 ≤ i.imm ∧ i.imm ≤ 31) ∧ (shV i.op = 0 ∧ fmV i.op = 0 → i.imm = 0) ∧ (0 < fmV i.op → May (fmV i.op) i.imm)
def P4 (i : Ins) : Prop := if i.op = 50 then 0 ≤ i.pred ∧ i.pred < 16 ∧ 0 ≤ i.succ ∧ i.succ < 16 else if i.op = 51 then i.pred = 3 ∧ i.succ = 3 else i.pred = 0 ∧ i.succ = 0
instance (i : Ins) : Decidable (P1 i) := by unfold P1; infer_instance
instance (i : Ins) : Decidable (P2 i) := by unfold P2; infer_instance
instance (i : Ins) : Decidable (P3 i) := by unfold P3; infer_instance
instance (i : Ins) : Decidable (P4 i) := by unfold P4; infer_instance
def rgtB (i : Ins) : Bool := decide (P1 i) && decide (P2 i) && decide (P3 i) && decide (P4 i)
theorem zj3 (i : Ins) : rgtB i = true ↔ Rgt i := by
  unfold rgtB
  simp only [Bool.and_eq_true, decide_eq_true_eq]
  constructor
  · rintro ⟨⟨⟨⟨a0, a1, a2, a3, a4, a5, a6⟩, b1, b2, b3, b4⟩, c1, c2, c3, c4⟩, d⟩
    have hs := zd0 i.op
    unfold P4 at d
    refine ⟨by omega, ⟨a1, a2⟩, ⟨a3, a4⟩, ⟨a5, a6⟩, fun h => b1.resolve_left (by rw [h]; decide), fun h => b2.resolve_left (by rw [h]; decide), fun h => b3.resolve_left (by rw [h]; decide), fun h => b4.resolve_left (by omega), c1, c2, fun h g => c3 ⟨h, g⟩, c4, fun h => ?_, fun h => ?_, fun h g => ?_⟩
    · rw [if_pos h] at d; exact d
    · rw [if_neg (by omega), if_pos h] at d; exact d
    · rw [if_neg h, if_neg g] at d; exact d
  · rintro ⟨h0, h1, h2, h3, w1, w2, w3, w4, s6, s5, nn, mm, f1, f2, f3⟩
    have hs := zd0 i.op
    refine ⟨⟨⟨⟨by omega, h1.1, h1.2, h2.1, h2.2, h3.1, h3.2⟩, ?_, ?_, ?_, ?_⟩, s6, s5, fun h => nn h.1 h.2, mm⟩, ?_⟩
    · cases e : wrB i.op
      · exact .inr (w1 e)
      · exact .inl rfl
    · cases e : firB i.op
      · exact .inr (w2 e)
      · exact .inl rfl
    · cases e : secB i.op
      · exact .inr (w3 e)
      · exact .inl rfl
    · by_cases e : 10 ≤ srt i.op
      · exact .inl e
      · exact .inr (w4 (by omega))
    · unfold P4
      split
      · exact f1 ‹_›
      · split
        · exact f2 ‹_›
        · exact f3 ‹_› ‹_›
end Go.Proofs.YtmamblgpekafbaaGreatDoor
namespace Go.Proofs.YtmamblgpekafbaaGreatDoor
open Go.RowKit
end Go.Proofs.YtmamblgpekafbaaGreatDoor
