/- The law on names, walked over what is asked of package ops. -/
import Derived.Test.YtbnacdhhacafkaaDoorRows
import Derived.Test.YtbnacdhhacafkaaDoorLa
import Derived.WalkKit
import Derived.WalkLawsBesides
import Derived.WalkSmall
import Derived.WalkSpells
import Derived.Deep.LoopGhost
import Derived.Deep.QuietTactic
import Derived.BigQuiet
import Derived.Lib.Hide
import Derived.IntWalk
import Derived.Below
import Derived.LoopTactic
import Derived.Deep.Cut
import Derived.Deep.RegionHeld3
import Derived.Deep.DeepCutAuto
namespace Go.Proofs.YtbnacdhhacafkaaDoor
open Go.RowKit

def nmA (k : Nat) : List UInt8 := nmL.getD k []
theorem idx_nm : ∀ k : Fin 75, nmL.idxOf (nmA k.val) = k.val := by decide +kernel
theorem bynm_idx (l : List UInt8) : bynm l = if nmL.idxOf l < 75 then (nmL.idxOf l : Int) + 1 else 0 := by
  unfold bynm
  have : l ∈ nmL ↔ nmL.idxOf l < 75 := (List.idxOf_lt_length_iff (l := nmL) (a := l)).symm
  by_cases h : l ∈ nmL
  · rw [if_pos h, if_pos (this.1 h)]
  · rw [if_neg h, if_neg (fun g => h (this.2 g))]
theorem bynm_at {k : Nat} (h : k < 75) : bynm (nmA k) = (k : Int) + 1 := by
  rw [bynm_idx, idx_nm ⟨k, h⟩, if_pos h]
/-- The operation of a name, of the first k. -/
def wantK (l : List UInt8) (k : Nat) : Int := if nmL.idxOf l < k then (nmL.idxOf l : Int) + 1 else 0
theorem wantK_zero (l : List UInt8) : wantK l 0 = 0 := by unfold wantK; rw [if_neg (by omega)]
theorem wantK_end (l : List UInt8) : wantK l 75 = bynm l := by rw [bynm_idx]; rfl
theorem nmA_eq {l : List UInt8} {k : Nat} (h : k < 75) : nmA k = l ↔ nmL.idxOf l = k := by
  constructor
  · intro e; rw [← e]; exact idx_nm ⟨k, h⟩
  · intro e
    have hlt : nmL.idxOf l < nmL.length := by rw [e, nmL_len]; exact h
    have := List.getElem_idxOf hlt
    unfold nmA
    rw [List.getD_eq_getElem?_getD, List.getElem?_eq_getElem (by rw [nmL_len]; exact h)]
    simp only [Option.getD_some]
    simp only [e] at this
    exact this
theorem wantK_yes {l : List UInt8} {k : Nat} (h : k < 75) (e : nmA k = l) : wantK l (k + 1) = (k : Int) + 1 := by
  have := (nmA_eq h).1 e
  unfold wantK; rw [this, if_pos (by omega)]
theorem wantK_no {l : List UInt8} {k : Nat} (h : k < 75) (e : nmA k ≠ l) : wantK l (k + 1) = wantK l k := by
  have h2 : nmL.idxOf l ≠ k := fun g => e ((nmA_eq h).2 g)
  unfold wantK
  by_cases g : nmL.idxOf l < k
  · rw [if_pos g, if_pos (by omega)]
  · rw [if_neg g, if_neg (by omega)]
theorem wantK_range (l : List UInt8) (k : Nat) (h : k ≤ 75) : 0 ≤ wantK l k ∧ wantK l k ≤ 75 := by
  unfold wantK; split <;> omega
theorem nmO_at {op : Int} (h : 1 ≤ op ∧ op ≤ 75) : nmO op = nmA (op.toNat - 1) := by unfold nmO; rw [if_pos h]; rfl
theorem nmO_no {op : Int} (h : ¬ (1 ≤ op ∧ op ≤ 75)) : nmO op = [] := by unfold nmO; rw [if_neg h]
theorem nmA_some : ∀ k : Fin 75, nmA k.val ≠ [] := by decide

/-- The names lie at block g. -/
def NmAt (g : Nat) (w : World) : Prop := g < w.heap.size ∧ ∀ k, k < 75 → w.cell? ⟨g, k, none⟩ = some (tx (nmA k))
theorem NmAt.on {g : Nat} {w w' : World} (h : NmAt g w) (hb : Below w.heap.size w w') : NmAt g w' :=
  ⟨Nat.lt_of_lt_of_le h.1 hb.size, fun k hk => (hb.cell (p := ⟨g, k, none⟩) h.1).trans (h.2 k hk)⟩
def GotN (W w0 : World) (e : Ending) (w' : World) : Prop := e = .returned (.slice (some ⟨w0.heap.size, 0, none⟩) 75 75) ∧ BW W w' ∧ NmAt w0.heap.size w'
theorem names_bw (W w : World) (h : BW W w) : Calls Tryd.prog 32 #[] w (GotN W w) :=
  (names_any w).mono fun _ _ ⟨he, hw⟩ => by
    subst hw
    refine ⟨he, Below.alloc h (Below.size h) _, by simp, fun k hk => ?_⟩
    rw [cell_of_row _ _ k nmV _ (0, 0) (heap_alloc_last w _)]
    exact nmV_at hk

def N3 (W : World) (g k : Nat) (r : ByteArray) (w : World) : Prop := BW W w ∧ NmAt g w ∧ w.cell? ⟨g, k, none⟩ = some (.string r)
theorem N3.on {W : World} {g k : Nat} {r : ByteArray} {w w' : World} (h : N3 W g k r w) (hb : Below w.heap.size w w') : N3 W g k r w' :=
  ⟨h.1.on hb, h.2.1.on hb, (hb.cell (p := ⟨g, k, none⟩) h.2.1.1).trans h.2.2⟩
theorem NmAt.drew {g : Nat} {w : World} (h : NmAt g w) : NmAt g w.drew := h
theorem BW.drew' {W w : World} (h : BW W w) : BW W w.drew := Below.drew h
end Go.Proofs.YtbnacdhhacafkaaDoor
