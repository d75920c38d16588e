/- Memory in words: a slice that reads as a list of picks; and which lists of picks are fair. Nothing here speaks of a program. -/
import Derived.WalkKit
import Derived.Below
import Derived.Laws.OwnMore
namespace Go.Proofs.Ytdhooabamoehiaa
open Go.RowKit

structure Pk where
  core : Int
  unit : Int
  at' : Nat

def pkCells (p : Pk) : List Value := [.int .i64 p.core, .int .i64 p.unit, .float .f64 p.at']
def cellsP (l : List Pk) : List Value := l.flatMap pkCells
theorem cellsP_len (l : List Pk) : (cellsP l).length = l.length * 3 := by
  induction l with
  | nil => rfl
  | cons p l ih => unfold cellsP at *; rw [List.flatMap_cons, List.length_append, ih, List.length_cons]; show 3 + _ = _; omega
theorem cellsP_at {l : List Pk} {i : Nat} (h : i < l.length) :
    (cellsP l)[i * 3]? = some (.int .i64 l[i].core) ∧ (cellsP l)[i * 3 + 1]? = some (.int .i64 l[i].unit) ∧ (cellsP l)[i * 3 + 2]? = some (.float .f64 l[i].at') := by
  induction l generalizing i with
  | nil => cases h
  | cons p l ih =>
    have e : cellsP (p :: l) = .int .i64 p.core :: .int .i64 p.unit :: .float .f64 p.at' :: cellsP l := rfl
    rw [e]
    cases i with
    | zero => exact ⟨rfl, rfl, rfl⟩
    | succ i =>
      have := ih (i := i) (by simpa using h)
      rw [show (i + 1) * 3 = i * 3 + 3 by omega]
      simpa using this
theorem cellsP_append (l m : List Pk) : cellsP (l ++ m) = cellsP l ++ cellsP m := by unfold cellsP; simp

/-- The slice at A holds the cells xs, below block B; the empty one may be anywhere. -/
def Rd (w : World) (B : Nat) (A : Option Addr) (xs : List Value) : Prop :=
  xs = [] ∨ ∃ b off, A = some ⟨b, off, none⟩ ∧ b < B ∧ ∀ i v, xs[i]? = some v → w.cell? ⟨b, off + i, none⟩ = some v

section
variable {w w' : World} {B B' : Nat} {A : Option Addr} {xs : List Value}
theorem Rd.keep (h : Rd w B A xs) (hk : ∀ b off, b < B → w'.cell? ⟨b, off, none⟩ = w.cell? ⟨b, off, none⟩) : Rd w' B A xs := by
  rcases h with rfl | ⟨b, off, rfl, hb, hc⟩
  · exact .inl rfl
  · exact .inr ⟨b, off, rfl, hb, fun i v hv => (hk b _ hb).trans (hc i v hv)⟩
theorem Rd.mono (h : Rd w B A xs) (hB : B ≤ B') : Rd w B' A xs := by
  rcases h with rfl | ⟨b, off, rfl, hb, hc⟩
  · exact .inl rfl
  · exact .inr ⟨b, off, rfl, by omega, hc⟩
theorem Rd.below (h : Rd w B A xs) (hb : Below B w w') : Rd w' B A xs := h.keep fun b off hlt => hb.cell (p := ⟨b, off, none⟩) hlt
theorem Rd.pick {l : List Pk} (h : Rd w B A (cellsP l)) {i : Nat} (hi : i < l.length) :
    ∃ b off, A = some ⟨b, off, none⟩ ∧ b < B ∧ w.cell? ⟨b, off + i * 3, none⟩ = some (.int .i64 l[i].core) ∧ w.cell? ⟨b, off + i * 3 + 1, none⟩ = some (.int .i64 l[i].unit) ∧
      w.cell? ⟨b, off + i * 3 + 2, none⟩ = some (.float .f64 l[i].at') := by
  obtain ⟨e0, e1, e2⟩ := cellsP_at hi
  rcases h with h | ⟨b, off, rfl, hb, hc⟩
  · rw [h] at e0; cases e0
  · exact ⟨b, off, rfl, hb, hc _ _ e0, hc _ _ e1, hc _ _ e2⟩
/-- A part of a slice reads as the part of its list. -/
theorem Rd.part {l : List Pk} {b off : Nat} (h : Rd w B (some ⟨b, off, none⟩) (cellsP l)) (i n : Nat) (hi : i + n ≤ l.length) : Rd w B (some ⟨b, off + i * 3, none⟩) (cellsP ((l.drop i).take n)) := by
  rcases h with h | ⟨b', off', e, hb, hc⟩
  · left
    have : (cellsP l).length = 0 := by rw [h]; rfl
    rw [cellsP_len] at this
    have : l.length = 0 := by omega
    rw [List.length_eq_zero_iff.1 this]; simp [cellsP]
  · cases e
    right
    refine ⟨b, off + i * 3, rfl, hb, fun k v hk => ?_⟩
    have e1 : l = l.take i ++ ((l.drop i).take n ++ (l.drop i).drop n) := by rw [List.take_append_drop, List.take_append_drop]
    have e2 : (cellsP (l.take i)).length = i * 3 := by rw [cellsP_len, List.length_take, Nat.min_eq_left (by omega)]
    rw [Nat.add_assoc]
    refine hc (i * 3 + k) v ?_
    rw [e1, cellsP_append, cellsP_append, List.getElem?_append_right (by omega), e2, Nat.add_sub_cancel_left]
    have hlt : k < (cellsP ((l.drop i).take n)).length := (List.getElem?_eq_some_iff.1 hk).1
    rw [List.getElem?_append_left hlt]
    exact hk
end

/-! ### Fair picks -/
def olB (b : Nat) : Bool := decide (b = 18442240474082181120) || decide (b < 4607182418800017408)
def hitB (c u : Nat) (p : Pk) : Bool := decide (p.core = (c : Int)) && (decide (p.unit = (u : Int)) && olB p.at')
def unitB (l : List Pk) (c u : Nat) : Bool := l.any (hitB c u)
/-- All units of the cores below c, and those below u of core c. -/
def uptoB (l : List Pk) (c u : Nat) : Bool := (List.range c).all (fun i => (List.range 6).all (fun j => unitB l i j)) && (List.range u).all (fun j => unitB l c j)
def runB (l : List Pk) : Bool := uptoB l 3 0
def winB (l : List Pk) (w k : Nat) : Bool := runB ((l.drop (k * w)).take w)
def fairN (l : List Pk) (w n : Nat) : Bool := (List.range n).all (winB l w)
def fairB (l : List Pk) (w : Int) : Bool := decide (1 ≤ w) && fairN l w.toNat (l.length / w.toNat)
def winV (n : Nat) (w : Int) : Int := if 1 ≤ w then ((n / w.toNat : Nat) : Int) else 0

theorem uptoB_next (l : List Pk) (c u : Nat) : uptoB l c (u + 1) = (uptoB l c u && unitB l c u) := by
  unfold uptoB
  rw [List.range_succ (n := u), List.all_append, ← Bool.and_assoc]; simp
theorem uptoB_core (l : List Pk) (c : Nat) : uptoB l (c + 1) 0 = uptoB l c 6 := by
  unfold uptoB
  rw [List.range_succ (n := c), List.all_append]; simp
theorem uptoB_zero (l : List Pk) : uptoB l 0 0 = true := rfl
theorem uptoB_le (l : List Pk) {c u : Nat} (h1 : c < 3) (h2 : u < 6) (h : unitB l c u = false) : runB l = false := by
  unfold runB uptoB
  rw [Bool.and_eq_false_iff]
  left
  rw [List.all_eq_false]
  refine ⟨c, List.mem_range.2 h1, ?_⟩
  simp only [Bool.not_eq_true]
  rw [List.all_eq_false]
  exact ⟨u, List.mem_range.2 h2, by simp [h]⟩
theorem fairN_next (l : List Pk) (w n : Nat) : fairN l w (n + 1) = (fairN l w n && winB l w n) := by
  unfold fairN; rw [List.range_succ, List.all_append]; simp
theorem fairN_no {l : List Pk} {w n k : Nat} (h : k < n) (hk : winB l w k = false) : fairN l w n = false := by
  unfold fairN; rw [List.all_eq_false]; exact ⟨k, List.mem_range.2 h, by simp [hk]⟩
/-- None of the first i picks hits. -/
def noneB (l : List Pk) (c u i : Nat) : Bool := (l.take i).any (hitB c u)
theorem noneB_next {l : List Pk} {c u i : Nat} (h : i < l.length) : noneB l c u (i + 1) = (noneB l c u i || hitB c u l[i]) := by
  unfold noneB
  rw [List.take_succ_eq_append_getElem h, List.any_append]; simp
theorem noneB_all {l : List Pk} {c u i : Nat} (h : l.length ≤ i) : noneB l c u i = unitB l c u := by
  unfold noneB unitB; rw [List.take_of_length_le h]
theorem unit_of {l : List Pk} {c u i : Nat} (h : i < l.length) (hh : hitB c u l[i] = true) : unitB l c u = true := by
  unfold unitB; rw [List.any_eq_true]; exact ⟨_, List.getElem_mem h, hh⟩
end Go.Proofs.Ytdhooabamoehiaa
