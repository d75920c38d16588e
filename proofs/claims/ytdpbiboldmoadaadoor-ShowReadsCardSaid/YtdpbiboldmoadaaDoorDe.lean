/- The program's Decode; what is asked of package decode is so ('cdec'), behind the tables that the code lays. -/
import Derived.Test.YtdpbiboldmoadaaDoorRows
import Derived.Test.YtdpbiboldmoadaaDoorCy
import Derived.Test.YtdpbiboldmoadaaDoorCyz
import Derived.WalkKit
import Derived.WalkLawsBesides
import Derived.Deep.QuietTactic
import Derived.BigQuiet
import Derived.WalkSmall
import Derived.WalkSpells
import Derived.Lib.Hide
import Derived.Below
import Derived.LoopTactic
import Derived.Outline
import Derived.Deep.Cut
set_option maxRecDepth 100000
namespace Go.Proofs.YtdpbiboldmoadaaDoor
open Go.RowKit

theorem insV_agg (z : Ins) : insV z = .agg (insCells z) := rfl
/-- The result's block is written whole. -/
theorem res_out {P : Program} {W W0 w : World} {z : Ins} (i : Ins) (hr : Blk (insCells z) 23 W.heap.size W0) (hb : Below W.heap.size W W0) (h : BW W0 w) :
    ∃ w', (storeCells ⟨W.heap.size, 0, none⟩ (insCells i).toList 0).run P w = .ok () w' ∧ Blk (insCells i) 23 W.heap.size w' ∧ BW W w' := by
  obtain ⟨w', h1, h2, h3⟩ := (hr.within h hr.lt).store (P := P) (insCells i).toList rfl (ins_one i)
  refine ⟨w', h1, h2, ?_⟩
  have hbw : Below W.heap.size W w := hb.trans (Below.mono h hb.size)
  exact Below.stored hbw h3 (Nat.le_refl _) hbw.size
theorem oc47 : ∀ k : Fin 75, (ocV ((k.val : Int) + 1) = 47 ↔ 10 ≤ srt ((k.val : Int) + 1)) ∧ (ocV ((k.val : Int) + 1) = 15 ↔ ((k.val : Int) + 1 = 50 ∨ (k.val : Int) + 1 = 51)) := by decide
theorem oc47' {op : Int} (h : 1 ≤ op ∧ op ≤ 75) : (ocV op = 47 ↔ 10 ≤ srt op) ∧ (ocV op = 15 ↔ (op = 50 ∨ op = 51)) := by
  have := oc47 ⟨op.toNat - 1, by omega⟩
  simp only [show ((op.toNat - 1 : Nat) : Int) + 1 = op by omega] at this
  exact this
/-- The instruction of a word, before Clean. -/
def rawI (v op : Int) (aq rl : Bool) (pred succ : Int) : Ins := ⟨op, v / 128 % 32, v / 32768 % 32, v / 1048576 % 32, immV v op, aq, rl, pred, succ⟩
theorem raw_i64 {v op : Int} {aq rl : Bool} {p s : Int} (h : 1 ≤ op ∧ op ≤ 75) : I64 (rawI v op aq rl p s).op := ⟨by show _ ≤ op; omega, by show op ≤ _; omega⟩
theorem raw_at {v op : Int} (h : 1 ≤ op ∧ op ≤ 75) (hi : Isw v op) :
    (ocV op = 47 → insOf v op = clnI (rawI v op (decide (v / 67108864 % 2 = 1)) (decide (v / 33554432 % 2 = 1)) 0 0)) ∧
    (ocV op = 15 → insOf v op = clnI (rawI v op false false (v / 16777216 % 16) (v / 1048576 % 16))) ∧
    (ocV op ≠ 47 → ocV op ≠ 15 → insOf v op = clnI (rawI v op false false 0 0)) := by
  obtain ⟨h1, h2⟩ := oc47' h
  refine ⟨fun e => ?_, fun e => ?_, fun e e' => ?_⟩
  · have hs := h1.1 e
    have hn : op ≠ 50 ∧ op ≠ 51 := by
      refine ⟨fun g => ?_, fun g => ?_⟩
      · subst g; exact absurd e (by decide)
      · subst g; exact absurd e (by decide)
    unfold insOf clnI rawI immV
    simp [hs, hn.1, hn.2]
  · have hs : ¬ 10 ≤ srt op := fun g => by have := h1.2 g; omega
    rcases h2.1 e with rfl | rfl
    · unfold insOf clnI rawI immV
      simp [hs]
    · have h7 := hi.nrm.n8 (by decide)
      have a1 : v / 16777216 % 16 = 3 := by omega
      have a2 : v / 1048576 % 16 = 3 := by omega
      unfold insOf clnI rawI immV
      simp [hs, a1, a2]
  · have hs : ¬ 10 ≤ srt op := fun g => e (h1.2 g)
    have hn : op ≠ 50 ∧ op ≠ 51 := ⟨fun g => e' (h2.2 (.inl g)), fun g => e' (h2.2 (.inr g))⟩
    unfold insOf clnI rawI immV
    simp [hs, hn.1, hn.2]

theorem beq_dec (x : Int) : (x == 1) = decide (x = 1) := rfl
end Go.Proofs.YtdpbiboldmoadaaDoor
