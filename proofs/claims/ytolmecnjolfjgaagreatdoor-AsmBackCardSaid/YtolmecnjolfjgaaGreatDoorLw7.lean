/- The laws EncodeWords, EncodeBack and EncodeUnlike, walked over what is asked of packages encode and decode. The law EncodeBack. The law EncodeUnlike. The law EncodePrograms. The law EncodePrograms, walked over what is asked of package encode. -/
import Derived.Test.YtolmecnjolfjgaaGreatDoorRows
import Derived.Test.YtolmecnjolfjgaaGreatDoorCes
import Derived.WalkKit
import Derived.WalkLawsBesides
import Derived.Deep.QuietTactic
import Derived.BigQuiet
import Derived.WalkSmall
import Derived.WalkSpells
import Derived.Lib.Hide
import Derived.Below
import Derived.LoopTactic
import Derived.Outline
import Derived.Test.YtolmecnjolfjgaaGreatDoorWx
import Derived.Deep.LoopGhost
import Derived.OwnWalk
import Derived.Laws.AppendOwn
set_option maxRecDepth 100000
namespace Go.Proofs.YtolmecnjolfjgaaGreatDoor
open Go.RowKit

end Go.Proofs.YtolmecnjolfjgaaGreatDoor
namespace Go.Proofs.YtolmecnjolfjgaaGreatDoor
open Go.RowKit

theorem join20 {p q : Nat} (h : q < 1048576) : p * 1048576 ||| q = p * 1048576 + q :=
  nat_join 20 _ _ (by rw [show (2 : Nat) ^ 20 = 1048576 by decide]; exact Nat.mul_mod_left _ _) (by rw [show (2 : Nat) ^ 20 = 1048576 by decide]; exact h)
theorem nlow (w : Nat) : w &&& 28799 = w / 4096 % 8 * 4096 + w % 128 := by
  have h1 := and_fld w 12 3
  have h2 := and_fld w 0 7
  rw [show (2 ^ 3 - 1) * 2 ^ 12 = 28672 by decide, show (2 : Nat) ^ 3 = 8 by decide, show (2 : Nat) ^ 12 = 4096 by decide] at h1
  rw [show (2 ^ 7 - 1) * 2 ^ 0 = 127 by decide, show (2 : Nat) ^ 7 = 128 by decide, Nat.pow_zero, Nat.div_one, Nat.mul_one] at h2
  have h3 : (28799 : Nat) = 28672 ||| 127 := by decide
  have h5 : w &&& 28799 = w &&& (28672 ||| 127) := by rw [← h3]
  rw [h5, Nat.and_or_distrib_left, h1, h2]
  exact join12 (by omega)
theorem nfen (w : Nat) : w &&& 267415679 = w / 1048576 % 256 * 1048576 + (w / 4096 % 8 * 4096 + w % 128) := by
  have h1 := and_fld w 20 8
  rw [show (2 ^ 8 - 1) * 2 ^ 20 = 267386880 by decide, show (2 : Nat) ^ 8 = 256 by decide, show (2 : Nat) ^ 20 = 1048576 by decide] at h1
  have h3 : (267415679 : Nat) = 267386880 ||| 28799 := by decide
  have h5 : w &&& 267415679 = w &&& (267386880 ||| 28799) := by rw [← h3]
  rw [h5, Nat.and_or_distrib_left, h1, nlow]
  exact join20 (by omega)
theorem ntso (w : Nat) : w &&& 4293947519 = w / 1048576 % 4096 * 1048576 + (w / 4096 % 8 * 4096 + w % 128) := by
  have h1 := and_fld w 20 12
  rw [show (2 ^ 12 - 1) * 2 ^ 20 = 4293918720 by decide, show (2 : Nat) ^ 12 = 4096 by decide, show (2 : Nat) ^ 20 = 1048576 by decide] at h1
  have h3 : (4293947519 : Nat) = 4293918720 ||| 28799 := by decide
  have h5 : w &&& 4293947519 = w &&& (4293918720 ||| 28799) := by rw [← h3]
  rw [h5, Nat.and_or_distrib_left, h1, nlow]
  exact join20 (by omega)
theorem own_fence {v : Int} (v0 : 0 ≤ v) (v1 : v < 4294967296) (h : Isw v 50) : bits .and .u32 v 267415679 = ownV v 50 := by
  have h1 := h.nrm.n1
  rw [show ocV 50 = 15 by decide] at h1
  have h2 : v / 4096 % 8 = 0 := by
    unfold Isw at h
    rw [show kdV 50 = 6 by decide] at h
    omega
  obtain ⟨a, rfl⟩ := Int.eq_ofNat_of_zero_le v0
  have e : bits .and .u32 (a : Int) 267415679 = ((a &&& 267415679 : Nat) : Int) := by
    have := u32_and (a : Int) 267415679 (by omega) (by omega) (by decide) (by decide)
    simpa using this
  rw [e, nfen]
  unfold ownV
  rw [if_pos rfl]
  omega
theorem own_tso {v : Int} (v0 : 0 ≤ v) (v1 : v < 4294967296) (h : Isw v 51) : bits .and .u32 v 4293947519 = ownV v 51 := by
  have h1 := h.nrm.n1
  have h3 := h.nrm.n8 (by decide)
  rw [show ocV 51 = 15 by decide] at h1
  have h2 : v / 4096 % 8 = 0 := by
    unfold Isw at h
    rw [show kdV 51 = 7 by decide] at h
    omega
  obtain ⟨a, rfl⟩ := Int.eq_ofNat_of_zero_le v0
  have e : bits .and .u32 (a : Int) 4293947519 = ((a &&& 4293947519 : Nat) : Int) := by
    have := u32_and (a : Int) 4293947519 (by omega) (by omega) (by decide) (by decide)
    simpa using this
  rw [e, ntso]
  unfold ownV
  rw [if_neg (by decide), if_pos rfl]
  omega
theorem opW_back {i : Ins} (h : Rgt i) : decI (wordV i) = i ∧ decE (wordV i) = 0 := by
  obtain ⟨_, h2, h3⟩ := enc_dec h
  have hw := opW_is h.op h2
  have hop := h.op
  refine ⟨?_, ?_⟩
  · unfold decI; rw [hw, if_neg (by omega)]; exact h3
  · exact decE_yes (by omega)
/-- What is told of a word: none, or an instruction that is right, whose word is the word's own bits. -/
theorem dec_ways {v : Int} (hv : U32 v) : decE v = 2 ∨ (decE v = 0 ∧ rgtB (decI v) = true ∧ I64 (decI v).op ∧ wordV (decI v) = ownV v (decI v).op ∧ Isw v (decI v).op) := by
  by_cases h0 : opW v = 0
  · left; unfold decE decB; rw [h0]; rfl
  · right
    obtain ⟨h1, h2⟩ := opW_isw h0
    obtain ⟨g1, g2⟩ := dec_enc h1 hv.1 hv.2 h2
    have e : decI v = insOf v (opW v) := by unfold decI; rw [if_neg h0]
    have e2 : (decI v).op = opW v := by rw [e, insOf_op]
    refine ⟨decE_yes h0, ?_, ?_, ?_, ?_⟩
    · rw [e]; exact (rgt_iff _).2 g1
    · rw [e2]; exact ⟨by omega, by omega⟩
    · rw [e2, e]; exact g2
    · rw [e2]; exact h2

end Go.Proofs.YtolmecnjolfjgaaGreatDoor
namespace Go.Proofs.YtolmecnjolfjgaaGreatDoor
open Go.RowKit

theorem unlike_same {i k : Ins} (hi : Rgt i) (hk : Rgt k) : (wordV i == wordV k) = eqB i k := by
  rw [Bool.eq_iff_iff, eqB_iff, beq_iff_eq]
  constructor
  · intro h
    have h1 := (opW_back hi).1
    have h2 := (opW_back hk).1
    rw [h] at h1
    exact h1.symm.trans h2
  · intro h; rw [h]
end Go.Proofs.YtolmecnjolfjgaaGreatDoor
namespace Go.Proofs.YtolmecnjolfjgaaGreatDoor
open Go.RowKit

/-- The bytes of instructions' words. -/
def progB (l : List Ins) : List Int := l.flatMap fun i => bytesL (wordV i) 4
def allB (l : List Ins) : Bool := l.all rgtB
theorem progB_len (l : List Ins) : (progB l).length = l.length * 4 := by
  induction l with
  | nil => rfl
  | cons p l ih => unfold progB at *; rw [List.flatMap_cons, List.length_append, ih, List.length_cons, bytesL_length]; omega
theorem progB_snoc (l : List Ins) (i : Ins) : progB (l ++ [i]) = progB l ++ bytesL (wordV i) 4 := by unfold progB; simp
theorem progB_byts (l : List Ins) : Byts (progB l) := by
  intro z hz
  unfold progB at hz
  obtain ⟨i, _, hi⟩ := List.mem_flatMap.1 hz
  exact byts_bytesL _ _ z hi
theorem word_bytes {x : Int} (h0 : 0 ≤ x) (h1 : x < 4294967296) : byteAt x 0 + 256 * byteAt x 1 + 65536 * byteAt x 2 + 16777216 * byteAt x 3 = x := by
  unfold byteAt
  simp
  omega
theorem word4_prog {l : List Ins} {k : Nat} (hk : k < l.length) (h : Rgt l[k]) : word4 (progB l) (4 * k) = wordV l[k] := by
  have hd : ∀ j, j < 4 → (progB l).getD (4 * k + j) 0 = byteAt (wordV l[k]) j := by
    clear h
    induction l generalizing k with
    | nil => cases hk
    | cons p l ih =>
      intro j hj
      have e : progB (p :: l) = bytesL (wordV p) 4 ++ progB l := rfl
      have hl : (bytesL (wordV p) 4).length = 4 := bytesL_length _ _
      rw [e, List.getD_eq_getElem?_getD]
      cases k with
      | zero =>
        rw [List.getElem?_append_left (by omega)]
        unfold bytesL
        rw [List.getElem?_map, List.getElem?_range (by omega)]
        simp
      | succ k =>
        rw [List.getElem?_append_right (by omega), hl, show 4 * (k + 1) + j - 4 = 4 * k + j by omega, ← List.getD_eq_getElem?_getD]
        have := ih (k := k) (by simpa using hk) j hj
        simpa using this
  obtain ⟨hr, _⟩ := enc_dec h
  unfold word4
  rw [← Nat.add_zero (4 * k), hd 0 (by decide), Nat.add_zero, hd 1 (by decide), hd 2 (by decide), hd 3 (by decide)]
  exact word_bytes hr.1 hr.2
theorem list_prog {l : List Ins} (h : allB l = true) : lstI (progB l) = l := by
  unfold lstI lstK
  rw [progB_len, Nat.mul_div_cancel _ (by decide : 0 < 4)]
  apply List.ext_getElem
  · simp
  · intro k h1 h2
    have hr : Rgt l[k] := (rgt_iff _).1 (List.all_eq_true.1 h _ (List.getElem_mem h2))
    simp only [List.getElem_map, List.getElem_range]
    rw [word4_prog h2 hr]
    exact (opW_back hr).1
end Go.Proofs.YtolmecnjolfjgaaGreatDoor
namespace Go.Proofs.YtolmecnjolfjgaaGreatDoor
open Go.RowKit

def RetP (w : World) (l : List Ins) (e : Ending) (w' : World) : Prop :=
  ∃ A cap bs er, e = .returned (.tuple #[.slice A (List.length bs) cap, .int .i64 er]) ∧ (List.length bs ≤ cap ∧ cap ≤ 9223372036854775807) ∧ Rd w' w'.heap.size A (cellsB bs) ∧ Below w.heap.size w w' ∧ ((allB l = true ∧ er = 0 ∧ bs = progB l) ∨ (allB l = false ∧ er = 1 ∧ bs = []))
/-- What is asked of the program's Program, in every world behind W. -/
def AskProgram (W : World) : Prop := ∀ A cap (l : List Ins) w, BW W w → Rd w w.heap.size A (cellsN l) → (∀ i ∈ l, I64 i.op) → l.length ≤ 1000 → Calls Tryz.prog 29 #[.slice A l.length cap] w (RetP w l)
theorem allB_snoc (l : List Ins) (i : Ins) : allB (l ++ [i]) = (allB l && rgtB i) := by unfold allB; simp
theorem Rd.now {W w : World} {A : Option Addr} {xs : List Value} (h : Rd W W.heap.size A xs) (hb : BW W w) : Rd w w.heap.size A xs := (h.below hb).mono (Below.size hb)
/-- Four bytes came, in a block of theirs. -/
def Ret4 (v : Int) (w : World) (e : Ending) (w' : World) : Prop := ∃ ad c, e = .returned (.slice (some ad) 4 c) ∧ (∀ j u, (cellsB (bytesL v 4))[j]? = some u → w'.cell? (ad.add j) = some u) ∧ Below w.heap.size w w'
theorem RetB.four {v : Int} {w : World} {e : Ending} {w' : World} (h : RetB w (bytesL v (cap8 4)) e w') : Ret4 v w e w' := by
  obtain ⟨A, c, he, hr, hb⟩ := h
  rw [show cap8 4 = 4 by decide] at he hr
  rw [bytesL_length] at he
  rcases hr with hr | ⟨b, off, rfl, _, hc⟩
  · have := congrArg List.length hr; unfold cellsB at this; rw [List.length_map, bytesL_length] at this; cases this
  · refine ⟨_, c, he, fun j u hu => ?_, hb⟩
    have hadd : (⟨b, off, none⟩ : Addr).add j = ⟨b, off + j, none⟩ := by unfold Addr.add; split <;> simp_all
    rw [hadd]
    exact hc j u hu
theorem cellsB_one (l : List Int) : ∀ u ∈ cellsB l, u.oneCell' = true := by
  intro u hu
  unfold cellsB at hu
  obtain ⟨p, _, rfl⟩ := List.mem_map.1 hu
  rfl
end Go.Proofs.YtolmecnjolfjgaaGreatDoor
