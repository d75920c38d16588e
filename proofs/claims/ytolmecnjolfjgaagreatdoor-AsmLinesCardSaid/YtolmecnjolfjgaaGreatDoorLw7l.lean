/- The laws EncodeWords, EncodeBack and EncodeUnlike, walked over what is asked of packages encode and decode. The law EncodeBack. The law EncodeUnlike. The law EncodePrograms. The law EncodePrograms, walked over what is asked of package encode. -/
import Derived.Test.YtolmecnjolfjgaaGreatDoorRows
import Derived.Test.YtolmecnjolfjgaaGreatDoorCesl
import Derived.WalkKit
import Derived.WalkLawsBesides
import Derived.Deep.QuietTactic
import Derived.BigQuiet
import Derived.WalkSmall
import Derived.WalkSpells
import Derived.Lib.Hide
import Derived.Below
import Derived.LoopTactic
import Derived.Outline
import Derived.Test.YtolmecnjolfjgaaGreatDoorWxl
import Derived.Deep.LoopGhost
import Derived.OwnWalk
import Derived.Laws.AppendOwn
set_option maxRecDepth 100000
namespace Go.Proofs.YtolmecnjolfjgaaGreatDoor
open Go.RowKit

end Go.Proofs.YtolmecnjolfjgaaGreatDoor
namespace Go.Proofs.YtolmecnjolfjgaaGreatDoor
open Go.RowKit

/-- What is told of a word: none, or an instruction that is right, whose word is the word's own bits. -/
theorem dec_ways {v : Int} (hv : U32 v) : decE v = 2 ∨ (decE v = 0 ∧ rgtB (decI v) = true ∧ I64 (decI v).op ∧ wordV (decI v) = ownV v (decI v).op ∧ Isw v (decI v).op) := by
  by_cases h0 : opW v = 0
  · left; unfold decE decB; rw [h0]; rfl
  · right
    obtain ⟨h1, h2⟩ := opW_isw h0
    obtain ⟨g1, g2⟩ := dec_enc h1 hv.1 hv.2 h2
    have e : decI v = insOf v (opW v) := by unfold decI; rw [if_neg h0]
    have e2 : (decI v).op = opW v := by rw [e, insOf_op]
    refine ⟨decE_yes h0, ?_, ?_, ?_, ?_⟩
    · rw [e]; exact (rgt_iff _).2 g1
    · rw [e2]; exact ⟨by omega, by omega⟩
    · rw [e2, e]; exact g2
    · rw [e2]; exact h2

end Go.Proofs.YtolmecnjolfjgaaGreatDoor
namespace Go.Proofs.YtolmecnjolfjgaaGreatDoor
open Go.RowKit

end Go.Proofs.YtolmecnjolfjgaaGreatDoor
namespace Go.Proofs.YtolmecnjolfjgaaGreatDoor
open Go.RowKit

/-- The bytes of instructions' words. -/
def progB (l : List Ins) : List Int := l.flatMap fun i => bytesL (wordV i) 4
def allB (l : List Ins) : Bool := l.all rgtB
theorem progB_len (l : List Ins) : (progB l).length = l.length * 4 := by
  induction l with
  | nil => rfl
  | cons p l ih => unfold progB at *; rw [List.flatMap_cons, List.length_append, ih, List.length_cons, bytesL_length]; omega
theorem progB_snoc (l : List Ins) (i : Ins) : progB (l ++ [i]) = progB l ++ bytesL (wordV i) 4 := by unfold progB; simp
end Go.Proofs.YtolmecnjolfjgaaGreatDoor
namespace Go.Proofs.YtolmecnjolfjgaaGreatDoor
open Go.RowKit

def RetP (w : World) (l : List Ins) (e : Ending) (w' : World) : Prop :=
  ∃ A cap bs er, e = .returned (.tuple #[.slice A (List.length bs) cap, .int .i64 er]) ∧ (List.length bs ≤ cap ∧ cap ≤ 9223372036854775807) ∧ Rd w' w'.heap.size A (cellsB bs) ∧ Below w.heap.size w w' ∧ ((allB l = true ∧ er = 0 ∧ bs = progB l) ∨ (allB l = false ∧ er = 1 ∧ bs = []))
theorem allB_snoc (l : List Ins) (i : Ins) : allB (l ++ [i]) = (allB l && rgtB i) := by unfold allB; simp
theorem Rd.now {W w : World} {A : Option Addr} {xs : List Value} (h : Rd W W.heap.size A xs) (hb : BW W w) : Rd w w.heap.size A xs := (h.below hb).mono (Below.size hb)
/-- Four bytes came, in a block of theirs. -/
def Ret4 (v : Int) (w : World) (e : Ending) (w' : World) : Prop := ∃ ad c, e = .returned (.slice (some ad) 4 c) ∧ (∀ j u, (cellsB (bytesL v 4))[j]? = some u → w'.cell? (ad.add j) = some u) ∧ Below w.heap.size w w'
theorem RetB.four {v : Int} {w : World} {e : Ending} {w' : World} (h : RetB w (bytesL v (cap8 4)) e w') : Ret4 v w e w' := by
  obtain ⟨A, c, he, hr, hb⟩ := h
  rw [show cap8 4 = 4 by decide] at he hr
  rw [bytesL_length] at he
  rcases hr with hr | ⟨b, off, rfl, _, hc⟩
  · have := congrArg List.length hr; unfold cellsB at this; rw [List.length_map, bytesL_length] at this; cases this
  · refine ⟨_, c, he, fun j u hu => ?_, hb⟩
    have hadd : (⟨b, off, none⟩ : Addr).add j = ⟨b, off + j, none⟩ := by unfold Addr.add; split <;> simp_all
    rw [hadd]
    exact hc j u hu
theorem cellsB_one (l : List Int) : ∀ u ∈ cellsB l, u.oneCell' = true := by
  intro u hu
  unfold cellsB at hu
  obtain ⟨p, _, rfl⟩ := List.mem_map.1 hu
  rfl
end Go.Proofs.YtolmecnjolfjgaaGreatDoor
