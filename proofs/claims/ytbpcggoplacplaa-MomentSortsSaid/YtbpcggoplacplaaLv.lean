/- The stable sort's passes on arrays: blocks of a width, merged two by two. Nothing here speaks of a program. -/
import Derived.Test.YtbpcggoplacplaaSm
namespace Go.Proofs.Ytbpcggoplacplaa
open Go.Sort

/-- In the middle of a pass from width w to width 2 w: t pairs are merged. -/
structure Pass (rk : Int → Int) (n w t : Nat) (d dk : Array Int) : Prop where
  perm : PermIn 0 n d dk
  done : ∀ k, k < t → SrtIn rk (k * (2 * w)) (k * (2 * w) + 2 * w) dk
  rest : ∀ k, 2 * t ≤ k → SrtIn rk (k * w) (min (k * w + w) n) dk
  wide : ∀ k, Apart 0 (k * (2 * w)) n dk
  walls : ∀ k, 2 * t ≤ k → Apart 0 (k * w) n dk
/-- Blocks of a width are in order, and stand apart. -/
structure Level (rk : Int → Int) (n w : Nat) (d dk : Array Int) : Prop where
  perm : PermIn 0 n d dk
  rest : ∀ k, SrtIn rk (k * w) (min (k * w + w) n) dk
  walls : ∀ k, Apart 0 (k * w) n dk

variable {rk : Int → Int} {n w t : Nat} {d dk dk' : Array Int}
theorem two_mul_mul (k w : Nat) : k * (2 * w) = 2 * k * w := by rw [← Nat.mul_assoc, Nat.mul_comm k 2]
theorem Pass.start (h : Level rk n w d dk) : Pass rk n w 0 d dk where
  perm := h.perm
  done := fun k hk => by omega
  rest := fun k _ => h.rest k
  wide := fun k => by rw [two_mul_mul]; exact h.walls (2 * k)
  walls := fun k _ => h.walls k
theorem Apart.none {a x n : Nat} {d : Array Int} (h : n ≤ x) : Apart a x n d := fun i j _ _ hj hj' => by omega

theorem Pass.left (h : Pass rk n w t d dk) (hb : t * (2 * w) + w ≤ n) : SrtIn rk (t * (2 * w)) (t * (2 * w) + w) dk := by
  have q := h.rest (2 * t) (Nat.le_refl _)
  rw [← two_mul_mul, Nat.min_eq_left hb] at q
  exact q
theorem Pass.left' (h : Pass rk n w t d dk) (hb : n ≤ t * (2 * w) + w) : SrtIn rk (t * (2 * w)) n dk := by
  have q := h.rest (2 * t) (Nat.le_refl _)
  rw [← two_mul_mul, Nat.min_eq_right hb] at q
  exact q
theorem succ_two (t w : Nat) : (2 * t + 1) * w = t * (2 * w) + w := by rw [Nat.succ_mul, ← two_mul_mul]
theorem Pass.right (h : Pass rk n w t d dk) (hb : t * (2 * w) + 2 * w ≤ n) : SrtIn rk (t * (2 * w) + w) (t * (2 * w) + 2 * w) dk := by
  have q := h.rest (2 * t + 1) (by omega)
  rw [succ_two, Nat.min_eq_left (by omega), show t * (2 * w) + w + w = t * (2 * w) + 2 * w by omega] at q
  exact q
theorem Pass.right' (h : Pass rk n w t d dk) (hb : n ≤ t * (2 * w) + 2 * w) : SrtIn rk (t * (2 * w) + w) n dk := by
  have q := h.rest (2 * t + 1) (by omega)
  rw [succ_two, Nat.min_eq_right (by omega)] at q
  exact q
theorem Pass.mid (h : Pass rk n w t d dk) {b : Nat} (hb : b ≤ n) : Apart (t * (2 * w)) (t * (2 * w) + w) b dk := by
  have q := h.walls (2 * t + 1) (by omega)
  rw [succ_two] at q
  exact fun i j _ hi' hj hj' => q i j (by omega) hi' hj (by omega)

theorem keep_apart {a b x n : Nat} {d dk dk' : Array Int} (h : Apart 0 x n dk) (hp : PermIn a b dk dk') (hs : dk.size = d.size) (hn : n = d.size) (_ : a ≤ b) (hb : b ≤ n) (hx : x ≤ a ∨ b ≤ x) : Apart 0 x n dk' := by
  rcases hx with hx | hx
  · exact h.perm2 (by omega) (by omega) (permIn_mono _ _ _ _ _ _ hx hb (by omega) hp)
  · rcases Nat.lt_or_ge n x with g | g
    · exact Apart.none (by omega)
    · exact h.perm g (by omega) (permIn_mono _ _ _ _ _ _ (by omega) hx (by omega) hp)

theorem Pass.next (h : Pass rk n w t d dk) (hn : n = d.size) (hb : t * (2 * w) + 2 * w ≤ n) (hp : PermIn (t * (2 * w)) (t * (2 * w) + 2 * w) dk dk') (hs : SrtIn rk (t * (2 * w)) (t * (2 * w) + 2 * w) dk') : Pass rk n w (t + 1) d dk' := by
  have hsz : dk.size = d.size := h.perm.1
  have out := hp.2.1
  refine ⟨permIn_trans _ _ _ _ _ h.perm (permIn_mono _ _ _ _ _ _ (Nat.zero_le _) hb (by omega) hp), fun k hk => ?_, fun k hk => ?_, fun k => ?_, fun k hk => ?_⟩
  · rcases Nat.lt_or_ge k t with g | g
    · have q := Nat.mul_le_mul_right (2 * w) (show k + 1 ≤ t from g)
      rw [Nat.succ_mul] at q
      exact (h.done k g).keep fun i hi hi' => out i (by omega)
    · rw [show k = t by omega]; exact hs
  · have q := Nat.mul_le_mul_right w (show 2 * (t + 1) ≤ k by omega)
    rw [show 2 * (t + 1) = 2 * t + 1 + 1 by omega, Nat.succ_mul, succ_two] at q
    exact (h.rest k (by omega)).keep fun i hi hi' => out i (by omega)
  · refine keep_apart (h.wide k) hp hsz hn (by omega) hb ?_
    rcases Nat.lt_or_ge t k with g | g
    · right; have q := Nat.mul_le_mul_right (2 * w) (show t + 1 ≤ k from g); rw [Nat.succ_mul] at q; exact q
    · left; exact Nat.mul_le_mul_right _ g
  · refine keep_apart (h.walls k (by omega)) hp hsz hn (by omega) hb (.inr ?_)
    have q := Nat.mul_le_mul_right w (show 2 * (t + 1) ≤ k by omega)
    rw [show 2 * (t + 1) = 2 * t + 1 + 1 by omega, Nat.succ_mul, succ_two] at q
    omega
/-- The last pair of a pass, whole or not, merged. -/
theorem Pass.stop (h : Pass rk n w t d dk) (hn : n = d.size) (hb : n < t * (2 * w) + 2 * w) (han : t * (2 * w) ≤ n) (hp : PermIn (t * (2 * w)) n dk dk') (hs : SrtIn rk (t * (2 * w)) n dk') : Level rk n (2 * w) d dk' := by
  have hsz : dk.size = d.size := h.perm.1
  have out := hp.2.1
  refine ⟨permIn_trans _ _ _ _ _ h.perm (permIn_mono _ _ _ _ _ _ (Nat.zero_le _) (Nat.le_refl _) (by omega) hp), fun k => ?_, fun k => ?_⟩
  · rcases Nat.lt_trichotomy k t with g | g | g
    · have q := Nat.mul_le_mul_right (2 * w) (show k + 1 ≤ t from g)
      rw [Nat.succ_mul] at q
      rw [Nat.min_eq_left (by omega)]
      exact (h.done k g).keep fun i hi hi' => out i (by omega)
    · rw [g, Nat.min_eq_right (by omega)]; exact hs
    · have q := Nat.mul_le_mul_right (2 * w) (show t + 1 ≤ k from g)
      rw [Nat.succ_mul] at q
      exact SrtIn.small (by omega) _
  · refine keep_apart (h.wide k) hp hsz hn han (Nat.le_refl _) ?_
    rcases Nat.lt_or_ge t k with g | g
    · right; have q := Nat.mul_le_mul_right (2 * w) (show t + 1 ≤ k from g); rw [Nat.succ_mul] at q; omega
    · left; exact Nat.mul_le_mul_right _ g
theorem Level.end (h : Level rk n w d dk) (hw : n ≤ w) : SrtIn rk 0 n dk := by
  have q := h.rest 0
  rw [Nat.zero_mul, Nat.min_eq_right (by omega)] at q
  exact q

/-- The first pass, by insertion: t blocks of 20 are in order. -/
structure Ins20 (rk : Int → Int) (n t : Nat) (d dk : Array Int) : Prop where
  perm : PermIn 0 n d dk
  done : ∀ k, k < t → SrtIn rk (k * 20) (k * 20 + 20) dk
  same : ∀ i, t * 20 ≤ i → dk[i]! = d[i]!
  walls : ∀ k, Apart 0 (k * 20) n dk
theorem Ins20.start (hx : ∀ p q, p < q → q < n → d[p]! < d[q]!) : Ins20 rk n 0 d d where
  perm := permIn_refl _ _ _
  done := fun k hk => by omega
  same := fun _ _ => rfl
  walls := fun k i j _ hi hj hj' => hx i j (by omega) hj'
theorem Ins20.next (h : Ins20 rk n t d dk) (hn : n = d.size) (hb : t * 20 + 20 ≤ n) (hp : PermIn (t * 20) (t * 20 + 20) dk dk') (hs : SrtIn rk (t * 20) (t * 20 + 20) dk') : Ins20 rk n (t + 1) d dk' := by
  have hsz : dk.size = d.size := h.perm.1
  have out := hp.2.1
  refine ⟨permIn_trans _ _ _ _ _ h.perm (permIn_mono _ _ _ _ _ _ (Nat.zero_le _) hb (by omega) hp), fun k hk => ?_, fun i hi => ?_, fun k => ?_⟩
  · rcases Nat.lt_or_ge k t with g | g
    · exact (h.done k g).keep fun i hi hi' => out i (by omega)
    · rw [show k = t by omega]; exact hs
  · rw [out i (by omega)]; exact h.same i (by omega)
  · exact keep_apart (h.walls k) hp hsz hn (by omega) hb (by omega)
theorem Ins20.stop (h : Ins20 rk n t d dk) (hn : n = d.size) (hb : n < t * 20 + 20) (han : t * 20 ≤ n) (hp : PermIn (t * 20) n dk dk') (hs : SrtIn rk (t * 20) n dk') : Level rk n 20 d dk' := by
  have hsz : dk.size = d.size := h.perm.1
  have out := hp.2.1
  refine ⟨permIn_trans _ _ _ _ _ h.perm (permIn_mono _ _ _ _ _ _ (Nat.zero_le _) (Nat.le_refl _) (by omega) hp), fun k => ?_, fun k => ?_⟩
  · rcases Nat.lt_trichotomy k t with g | g | g
    · rw [Nat.min_eq_left (by omega)]; exact (h.done k g).keep fun i hi hi' => out i (by omega)
    · rw [g, Nat.min_eq_right (by omega)]; exact hs
    · exact SrtIn.small (by omega) _
  · exact keep_apart (h.walls k) hp hsz hn han (Nat.le_refl _) (by omega)
end Go.Proofs.Ytbpcggoplacplaa
